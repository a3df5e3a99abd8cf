"""What follows of arrows by a game's rules, and the machine that is made of it."""

from pileduel.errors import TooMany
from pileduel.games import OTHER_HAND
from pileduel.priced import as_stands, has_within, least_alone, one_of_any, one_of_each
from pileduel.readings import arrows_by_top, readings_by


def follows(game, arrows):
    return sorted(as_arrows(following(game, arrows_by_top(arrows), False)))


def machine(game, saying, most=200):
    kept = {}
    for top, pairs in arrows_by_top([arrow + (0,) for arrow in saying[1]]).items():
        kept[top] = least_alone(pairs)
    waiting = not_kept(kept, following(game, kept, True))
    # What follows costs more than all it follows of. So the cheapest that wait are kept for good, and one more than
    # most is enough to refuse.
    while len(waiting) > 0 and how_many(kept) <= most:
        keep_cheapest(kept, waiting)
        waiting = not_kept(kept, following(game, kept, True))
    if how_many(kept) > most:
        raise TooMany(most)
    return tuple(sorted(as_arrows(kept)))


def how_many(tops):
    return sum([len(pairs) for pairs in tops.values()])


def as_arrows(tops):
    arrows = []
    for top, pairs in tops.items():
        arrows.extend([top + (as_stands(bits), cost) for cost, bits in pairs])
    return arrows


def following(game, tops, least):
    found = {}
    for top, rules in rules_by_top(game).items():
        groups = [readings_by(tops, rule[2], rule[3], least) for rule in rules]
        chosen = one_of_each(groups, least) if game[0][top[0]][1] == OTHER_HAND else one_of_any(groups, least)
        found[top] = [(cost + 1, bits) for cost, bits in chosen]
    return found


def rules_by_top(game):
    tops = {}
    for rule in game[2]:
        tops.setdefault(rule[:2], [])
        tops[rule[:2]].append(rule)
    return tops


def keep_cheapest(kept, waiting):
    cheapest = min([min(pairs)[0] for pairs in waiting.values()])
    for top, pairs in waiting.items():
        kept[top] = kept.get(top, []) + [pair for pair in pairs if pair[0] == cheapest]


# Of what was found, that which has nothing kept under it, of whatever cost.
def not_kept(kept, found):
    waiting = {}
    for top, pairs in found.items():
        lows = [bits for cost, bits in kept.get(top, [])]
        left = [pair for pair in pairs if not has_within(lows, pair[1])]
        if len(left) > 0:
            waiting[top] = left
    return waiting
