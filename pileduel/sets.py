"""Sets of stands that read a pile, and all of them that come up."""

from pileduel.sayings import reading_with


def stands_reading(arrows, ends, pile):
    stands = as_set(ends)
    for letter in reversed(pile):
        stands = set_with(arrows, stands, letter)
    return stands


def sets_come_up(game, arrows, ends):
    first = as_set(ends)
    piles = {first: ()}
    left = [first]
    while len(left) > 0:
        stands = left.pop(0)
        for letter in range(len(game[1])):
            above = set_with(arrows, stands, letter)
            if above not in piles:
                piles[above] = (letter,) + piles[stands]
                left.append(above)
    return list(piles.items())


def as_set(stands):
    return tuple(sorted(set(stands)))


def set_with(arrows, stands, letter):
    return as_set(reading_with(arrows, stands, letter))
