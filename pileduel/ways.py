"""Shortest ways to the saying, where the first hand is alone."""

from pileduel.errors import TooMany
from pileduel.papermaker import paper_for
from pileduel.play import behind, rules_here
from pileduel.runs import best_layers, best_rows


def way_from(game, saying, place, pile, most=60):
    paper = paper_for(game, saying)
    layers = best_layers(saying, paper, pile)
    if place not in layers[0]:
        return None
    left = layers[0][place][0]
    if left > most:
        raise TooMany(most)
    here = (place, pile)
    way = []
    while left > 0:
        left = left - 1
        rule = lowest_rule(game, paper, here, layers, left)
        layers = layers_behind(game, paper, layers, rule)
        here = behind(game, here[0], here[1], rule)
        way.append(rule)
    return tuple(way)


def lowest_rule(game, paper, here, layers, left):
    rules = rules_here(game, here[0], here[1])
    return [rule for rule in rules if cost_behind(game, paper, layers, rule) == left][0]


def cost_behind(game, paper, layers, rule):
    best = layers_behind(game, paper, layers, rule)[0]
    place = game[2][rule][2]
    return best[place][0] if place in best else None


# A rule changes the top alone: what was reckoned for the letters beneath it stays.
def layers_behind(game, paper, layers, rule):
    further = layers[1:]
    for letter in reversed(game[2][rule][3]):
        further = [best_rows(paper, letter, further[0])] + further
    return further
