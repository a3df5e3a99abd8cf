"""Programs as games: their runs are the game's plays."""

from pileduel.games import OTHER_HAND
from pileduel.programs import goings_on, word_at

FIRST_HAND = 0
# For each answer of the switch, in order, the first hand's and the other's.
PLACES = (("offone", 0), ("offtwo", 1), ("onone", 0), ("ontwo", 1))
SIGNS = "abcdefghijklmnopqrstuvwxyz"


def game_of(program):
    points = all_points(program)
    rules = []
    for answer in range(program[0] + 1):
        for point in points:
            rules.append(crossing_rule(program, points, answer, point))
            rules.extend(own_rules(program, points, answer, point))
    letters = tuple([SIGNS[procedure] + SIGNS[step] for procedure, step in points])
    return (PLACES[:2 * (program[0] + 1)], letters, tuple(sorted(set(rules))))


def saying_of(program):
    arrows = []
    for answer in range(program[0] + 1):
        for number, point in enumerate(all_points(program)):
            if word_at(program, point) == "mark":
                arrows.append((own_place(program, answer, point), number, ()))
    return (0, tuple(arrows), ())


def begin_of(program):
    return (own_place(program, 0, (0, 0)), (0,))


def all_points(program):
    points = []
    for number, procedure in enumerate(program[1]):
        points.extend([(number, step) for step in range(len(procedure) + 1)])
    return points


def own_hand(program, point):
    return OTHER_HAND if word_at(program, point) == "chance" else FIRST_HAND


def own_place(program, answer, point):
    return place_of(answer, own_hand(program, point))


def place_of(answer, hand):
    return 2 * answer + hand


# Behind a back a point may come up at the place of another hand than its own.
def crossing_rule(program, points, answer, point):
    own = own_hand(program, point)
    number = points.index(point)
    return (place_of(answer, 1 - own), number, place_of(answer, own), (number,))


def own_rules(program, points, answer, point):
    own = own_place(program, answer, point)
    rules = []
    for further, put in goings_on(program, answer, point):
        # What lies beneath isn't known behind a back: there it is always the first hand's place.
        place = own_place(program, further, put[0]) if len(put) > 0 else place_of(further, FIRST_HAND)
        rules.append((own, points.index(point), place, tuple([points.index(one) for one in put])))
    return rules
