"""Games changed: hands exchanged, other names, a rule more, a rule fewer."""

from pileduel.errors import NoFit, NoGame
from pileduel.games import is_there, look


def turned(game):
    return fitting(tuple([(name, 1 - hand) for name, hand in game[0]]), game[1], game[2])


def renamed(game, places, letters):
    if len(places) != len(game[0]) or len(letters) != len(game[1]):
        raise NoFit()
    hands = [hand for name, hand in game[0]]
    return fitting(tuple(zip(places, hands)), letters, game[2])


def with_rule(game, rule):
    return fitting(game[0], game[1], game[2] + (rule,))


def without_rule(game, k):
    # Python would count a number below 0 from the last rule.
    if not is_there(k, len(game[2])):
        raise NoFit()
    return fitting(game[0], game[1], game[2][:k] + game[2][k + 1:])


def fitting(places, letters, rules):
    game = (places, letters, rules)
    try:
        look(game)
    except NoGame:
        raise NoFit() from None
    return game
