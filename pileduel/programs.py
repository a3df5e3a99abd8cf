"""Small programs with calls: which are let by, and how they run."""

from pileduel.errors import NoProgram
from pileduel.games import is_there

MOST_SWITCHES = 1
MOST_PROCEDURES = 3
MOST_STEPS = 4
CHOOSING_WORDS = ("ask", "chance")
SWITCH_WORDS = ("set", "if")


def look_program(program):
    if not has_its_sizes(program):
        raise NoProgram(-1, -1)
    for number, procedure in enumerate(program[1]):
        for at, step in enumerate(procedure):
            if not may_stand(program, procedure, step):
                raise NoProgram(number, at)
    return True


def has_its_sizes(program):
    if not is_there(program[0], MOST_SWITCHES + 1) or not 1 <= len(program[1]) <= MOST_PROCEDURES:
        return False
    return all([1 <= len(procedure) <= MOST_STEPS for procedure in program[1]])


def may_stand(program, procedure, step):
    if step[0] in SWITCH_WORDS and program[0] == 0:
        return False
    if step[0] == "set":
        return is_there(step[1], 2)
    if step[0] == "call":
        return is_there(step[1], len(program[1]))
    # Of the other words each number is a step of this procedure; back and mark have none.
    return all([is_there(to, len(procedure)) for to in step[1:]])


# A point is a pair (procedure, step); the one behind a procedure's last step is its end, without a word.
def word_at(program, point):
    procedure = program[1][point[0]]
    return procedure[point[1]][0] if point[1] < len(procedure) else None


# Where a point goes on: pairs of the switch's answer and the points in its stead, the top first.
def goings_on(program, answer, point):
    word = word_at(program, point)
    if word is None or word == "back":
        return [(answer, ())]
    step = program[1][point[0]][point[1]]
    beneath = (point[0], point[1] + 1)
    if word == "call":
        return [(answer, ((step[1], 0), beneath))]
    if word == "set":
        return [(step[1], (beneath,))]
    # Either step of ask and chance; mark has none, so it doesn't go on.
    steps = step[1:]
    if word == "if":
        steps = (step[1] if answer == 1 else step[2],)
    return [(answer, ((point[0], to),)) for to in steps]


def run_program(program, choices, most):
    answer = 0
    pile = without_ends(program, ((0, 0),))
    asked = 0
    steps = 0
    while len(pile) > 0 and steps < most:
        word = word_at(program, pile[0])
        if word == "mark":
            return ("marked", steps + 1)
        chosen = 0
        if word in CHOOSING_WORDS:
            if asked == len(choices):
                return ("lacks", steps)
            chosen = choices[asked]
            asked = asked + 1
        further = goings_on(program, answer, pile[0])[chosen]
        answer = further[0]
        pile = without_ends(program, further[1] + pile[1:])
        steps = steps + 1
    return ("more", steps) if len(pile) > 0 else ("over", steps)


# What is as back is no step, so it is gone behind at once.
def without_ends(program, pile):
    while len(pile) > 0 and word_at(program, pile[0]) is None:
        pile = pile[1:]
    return pile
