"""A machine told as a saying of its own."""


def as_saying(game, saying, arrows):
    places = len(game[0])
    told = []
    for stand, letter, targets, cost in arrows:
        moved = tuple([places + target for target in targets])
        told.append((places + stand, letter, moved))
        if stand < places:
            told.append((stand, letter, moved))
    ends = [end for end in saying[2] if end < places] + [places + end for end in saying[2]]
    return (places + saying[0], tuple(sorted(set(told))), tuple(ends))
