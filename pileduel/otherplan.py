"""The other hand's plan: rules by which it keeps out of the saying for ever."""

from pileduel.games import OTHER_HAND, rules_at
from pileduel.sets import set_with, sets_come_up


def plan_of(game, saying, paper):
    due = keeping_rules(game, saying, paper)
    return tuple(sorted([spot + (rules[0],) for spot, rules in due.items()]))


def plan_keeps(game, saying, paper, plan):
    due = keeping_rules(game, saying, paper)
    if sorted([row[:3] for row in plan]) != sorted(due):
        return False
    return all([row[3] in due[row[:3]] for row in plan])


# For each set, place and letter of which a plan has a row: the rules there behind which it isn't read, rising.
def keeping_rules(game, saying, paper):
    sets = [stands for stands, pile in sets_come_up(game, paper, saying[2])]
    above = sets_above(game, paper, sets)
    due = {}
    for number, stands in enumerate(sets):
        for place, letter in answering_tops(game):
            if place not in above[(stands, letter)]:
                rules = rules_at(game, place, letter)
                due[(number, place, letter)] = [rule for rule in rules if not leads_to_read(game, above, stands, rule)]
    return due


# What comes up is closed: the set above one of these is one of these, too.
def sets_above(game, paper, sets):
    above = {}
    for stands in sets:
        for letter in range(len(game[1])):
            above[(stands, letter)] = set_with(paper, stands, letter)
    return above


def answering_tops(game):
    return sorted(set([rule[:2] for rule in game[2] if game[0][rule[0]][1] == OTHER_HAND]))


def leads_to_read(game, above, stands, rule):
    for letter in reversed(game[2][rule][3]):
        stands = above[(stands, letter)]
    return game[2][rule][2] in stands
