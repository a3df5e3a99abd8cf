"""Plain play: which rules may be gone by, and where one stands behind them."""

from pileduel.games import rules_at


def rules_here(game, place, pile):
    if len(pile) == 0:
        return []
    return rules_at(game, place, pile[0])


def behind(game, place, pile, rule):
    gone_by = game[2][rule]
    return (gone_by[2], gone_by[3] + pile[1:])


def behind_all(game, place, pile, rules):
    here = (place, pile)
    for rule in rules:
        if rule not in rules_here(game, here[0], here[1]):
            return None
        here = behind(game, here[0], here[1], rule)
    return here
