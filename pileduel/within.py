"""Plain answers: within how many moves the first hand brings the saying about."""

from pileduel.games import OTHER_HAND
from pileduel.play import behind, rules_here
from pileduel.sayings import is_in

MOST_MOVES = 6


def brings_within(game, saying, place, pile, k):
    return brings(game, saying, (place, pile), k, {})


def least_moves(game, saying, place, pile):
    known = {}
    for k in range(MOST_MOVES + 1):
        if brings(game, saying, (place, pile), k, known):
            return k
    return None


# Where many ways lead to, and with as many moves left, is asked once: known keeps it for this call alone.
def brings(game, saying, here, k, known):
    if (here, k) not in known:
        known[(here, k)] = is_in(saying, here[0], here[1]) or (k > 0 and moves_bring(game, saying, here, k - 1, known))
    return known[(here, k)]


def moves_bring(game, saying, here, k, known):
    rules = rules_here(game, here[0], here[1])
    told = [brings(game, saying, behind(game, here[0], here[1], rule), k, known) for rule in rules]
    if game[0][here[0]][1] == OTHER_HAND:
        return len(told) > 0 and all(told)
    return any(told)
