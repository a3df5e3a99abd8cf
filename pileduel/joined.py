"""Two sayings of one game joined: either of them, or both."""


def either(game, one, other):
    second = numbered_behind(game, other, one[0])
    return sorted_saying(one[0] + second[0], one[1] + second[1], one[2] + second[2])


def both(game, one, other):
    places = len(game[0])
    second = numbered_behind(game, other, one[0])
    arrows = [arrow for arrow in one[1] + second[1] if arrow[0] >= places]
    arrows.extend(arrows_of_places(places, one[1], second[1]))
    ends = [end for end in one[2] + second[2] if end >= places or (end in one[2] and end in second[2])]
    return sorted_saying(one[0] + second[0], arrows, ends)


def sorted_saying(many, arrows, ends):
    return (many, tuple(sorted(set(arrows))), tuple(sorted(set(ends))))


def numbered_behind(game, saying, by):
    places = len(game[0])
    arrows = []
    for stand, letter, targets in saying[1]:
        moved = tuple([moved_stand(places, target, by) for target in targets])
        arrows.append((moved_stand(places, stand, by), letter, moved))
    ends = [moved_stand(places, end, by) for end in saying[2]]
    return (saying[0], tuple(arrows), tuple(ends))


def moved_stand(places, stand, by):
    return stand if stand < places else stand + by


def arrows_of_places(places, arrows, seconds):
    told = []
    for stand, letter, targets in arrows:
        if stand < places:
            beside = [second[2] for second in seconds if second[:2] == (stand, letter)]
            # The second one's own stands are numbered behind the first one's, so that these targets rise.
            told.extend([(stand, letter, targets + others) for others in beside])
    return told
