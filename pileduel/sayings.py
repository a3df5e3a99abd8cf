"""Sayings: which are let by, and which piles they read."""

from pileduel.errors import NoSaying
from pileduel.games import is_there

MOST_OWN = 2
MOST_ARROWS = 8


def look_saying(game, saying):
    many = saying[0]
    arrows = saying[1]
    if not is_there(many, MOST_OWN + 1):
        raise NoSaying(-1)
    for number, arrow in enumerate(arrows):
        if not may_stand_behind(game, many, arrows[:number], arrow):
            raise NoSaying(number)
    if len(arrows) > MOST_ARROWS or not are_ends(game, many, saying[2]):
        raise NoSaying(len(arrows))
    return True


def may_stand_behind(game, many, ahead, arrow):
    places = len(game[0])
    stands = places + many
    if not is_there(arrow[0], stands) or not is_there(arrow[1], len(game[1])):
        return False
    if not is_rising(arrow[2], places, stands):
        return False
    return len(ahead) == 0 or ahead[-1] < arrow


def are_ends(game, many, ends):
    return is_rising(ends, 0, len(game[0]) + many)


def is_rising(stands, lowest, bound):
    if not all([is_there(stand, bound) and lowest <= stand for stand in stands]):
        return False
    return all([low < high for low, high in zip(stands, stands[1:])])


def reads(arrows, ends, stand, pile):
    reading = {}
    for end in ends:
        reading[end] = True
    # From the last letter up, so that each letter is looked at once, however many arrows share a target.
    for letter in reversed(pile):
        reading = reading_with(arrows, reading, letter)
    return stand in reading


def reading_with(arrows, reading, letter):
    above = {}
    for arrow in arrows:
        if arrow[1] == letter and all([target in reading for target in arrow[2]]):
            above[arrow[0]] = True
    return above


def is_in(saying, place, pile):
    return reads(saying[1], saying[2], place, pile)
