"""Games: which are let by, and which rules there are at a place and a letter."""

from pileduel.errors import NoGame

MOST_PLACES = 3
MOST_LETTERS = 3
MOST_RULES = 8
MOST_PUSHES = 3
MOST_ANSWERS = 2
OTHER_HAND = 1


def is_there(number, many):
    # Python takes True for 1, but a truth is no whole number.
    return not isinstance(number, bool) and 0 <= number < many


def rules_at(game, place, letter):
    return [number for number, rule in enumerate(game[2]) if rule[0] == place and rule[1] == letter]


def look(game):
    places = [name for name, hand in game[0]]
    letters = game[1]
    look_size("places", len(places), MOST_PLACES)
    look_size("letters", len(letters), MOST_LETTERS)
    look_unlike(places)
    look_unlike(letters)
    for number in range(len(game[2])):
        look_rule(game, number)
    # Last of all: a wrong rule behind the eighth is told ahead of there being too many.
    if len(game[2]) > MOST_RULES:
        raise NoGame("rules", len(game[2]))
    return True


def look_size(word, many, most):
    if not 1 <= many <= most:
        raise NoGame(word, many)


def look_unlike(names):
    for number, name in enumerate(names):
        if name in names[:number]:
            raise NoGame("twice", number)


def look_rule(game, number):
    rule = game[2][number]
    ahead = game[2][:number]
    if not has_its_parts(game, rule) or rule in ahead:
        raise NoGame("rule", number)
    if is_push(rule) and len([one for one in ahead if is_push(one)]) == MOST_PUSHES:
        raise NoGame("pushes", number)
    if game[0][rule[0]][1] == OTHER_HAND and len([one for one in ahead if one[:2] == rule[:2]]) == MOST_ANSWERS:
        raise NoGame("many", number)


def has_its_parts(game, rule):
    places = len(game[0])
    letters = len(game[1])
    if not is_there(rule[0], places) or not is_there(rule[2], places):
        return False
    return all([is_there(letter, letters) for letter in (rule[1],) + rule[3]])


def is_push(rule):
    return len(rule[3]) == 2
