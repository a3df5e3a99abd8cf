"""The document's words gone through plainly, each row of choices by itself, and drawn games to compare by."""

import itertools
import random


def plainly_reads(arrows, ends, stand, pile):
    if not pile:
        return stand in ends
    for arrow in arrows:
        if arrow[0] == stand and arrow[1] == pile[0]:
            if all(plainly_reads(arrows, ends, target, pile[1:]) for target in arrow[2]):
                return True
    return False


def together(many_targets):
    return tuple(sorted({target for targets in many_targets for target in targets}))


def plain_readings(arrows, stand, w):
    if not w:
        return [((stand,), 0)]
    firsts = [arrow for arrow in arrows if arrow[:2] == (stand, w[0])]
    if len(w) == 1:
        return sorted({arrow[2:] for arrow in firsts})
    told = set()
    for first in firsts:
        for chosen in itertools.product(*([arrow for arrow in arrows if arrow[:2] == (target, w[1])]
                                          for target in first[2])):
            cost = first[3] + max((arrow[3] for arrow in chosen), default=0)
            told.add((together(arrow[2] for arrow in chosen), cost))
    return sorted(told)


def plain_follows(game, arrows):
    told = set()
    for place, letter in {rule[:2] for rule in game[2]}:
        found = [plain_readings(arrows, q, w) for p, x, q, w in game[2] if (p, x) == (place, letter)]
        if game[0][place][1] == 0:
            rows = [(reading,) for one in found for reading in one]
        else:
            rows = itertools.product(*found)
        for row in rows:
            targets = together(reading[0] for reading in row)
            told.add((place, letter, targets, 1 + max(reading[1] for reading in row)))
    return sorted(told)


def kept_of(arrows):
    return {arrow for arrow in arrows if not any(pushes_out(other, arrow) for other in arrows)}


def pushes_out(other, arrow):
    among = set(other[2]) <= set(arrow[2])
    return other != arrow and other[:2] == arrow[:2] and among and other[3] <= arrow[3]


def plain_machine(game, saying):
    arrows = kept_of({arrow + (0,) for arrow in saying[1]})
    while True:
        more = kept_of(arrows | set(plain_follows(game, arrows)))
        if more == arrows:
            return tuple(sorted(arrows))
        arrows = more


def all_triples(game, ahead, number):
    """Each triple of a rule by rows ahead that may stand in a why, with its reading's targets and cost."""
    place, w = game[2][number][2:]
    if not w:
        return [((number, None, ()), (place,), 0)]
    told = []
    for first, row in enumerate(ahead):
        if row[:2] != (place, w[0]):
            continue
        if len(w) == 1:
            told.append(((number, first, ()), row[2], row[3]))
            continue
        ways = [[at for at, one in enumerate(ahead) if one[:2] == (target, w[1])] for target in row[2]]
        for rest in itertools.product(*ways):
            cost = row[3] + max((ahead[at][3] for at in rest), default=0)
            told.append(((number, first, rest), together(ahead[at][2] for at in rest), cost))
    return told


def all_whys(game, ahead, stand, letter):
    triples = [all_triples(game, ahead, number) for number, rule in enumerate(game[2]) if rule[:2] == (stand, letter)]
    if not triples:
        return []
    rows = [(one,) for some in triples for one in some] if game[0][stand][1] == 0 else itertools.product(*triples)
    return [(tuple(one[0] for one in row), together(one[1] for one in row), 1 + max(one[2] for one in row))
            for row in rows]


def wider(game, paper):
    """The paper and behind it whatever follows of its rows, with each why, cheap or dear."""
    told = paper
    for stand, letter in sorted({rule[:2] for rule in game[2]}):
        told += tuple((stand, letter, targets, cost, why) for why, targets, cost in all_whys(game, paper, stand, letter))
    return told


def plain_paper_at(game, saying, paper):
    """Where a paper is refused, or None; all that may stand is written out and compared."""
    for number, (stand, letter, targets, cost, why) in enumerate(paper):
        whys = [((), arrow[2], 0) for arrow in saying[1] if arrow[:2] == (stand, letter)]
        whys += all_whys(game, paper[:number], stand, letter)
        if cost is None or not any(one[:2] == (why, targets) and one[2] <= cost for one in whys):
            return number
    arrows = [row[:4] for row in paper]
    for needed in list(saying[1]) + plain_follows(game, arrows):
        if not any(arrow[:2] == needed[:2] and set(arrow[2]) <= set(needed[2]) for arrow in arrows):
            return len(paper)
    return None


class PlainPlay:
    """Within how many moves the first brings the saying about, move by move."""

    def __init__(self, game, saying):
        self.game = game
        self.saying = saying
        self.asked = {}

    def within(self, place, pile, k):
        if (place, pile, k) not in self.asked:
            self.asked[(place, pile, k)] = self.reckoned(place, pile, k)
        return self.asked[(place, pile, k)]

    def reckoned(self, place, pile, k):
        if plainly_reads(self.saying[1], self.saying[2], place, pile):
            return True
        if k == 0 or not pile:
            return False
        brings = [self.within(q, w + pile[1:], k - 1) for p, x, q, w in self.game[2] if (p, x) == (place, pile[0])]
        return any(brings) if self.game[0][place][1] == 0 else bool(brings) and all(brings)

    def least(self, place, pile, most):
        for k in range(most + 1):
            if self.within(place, pile, k):
                return k
        return None


def plain_cost(arrows, ends, stand, pile):
    """The least cost by which a stand reads a pile, or None."""
    if not pile:
        return 0 if stand in ends else None
    costs = []
    for arrow in arrows:
        if arrow[:2] == (stand, pile[0]):
            beneath = [plain_cost(arrows, ends, target, pile[1:]) for target in arrow[2]]
            if None not in beneath:
                costs.append(arrow[3] + max(beneath, default=0))
    return min(costs, default=None)


def all_runs(saying, paper, place, pile):
    """Each run from where one stands, by each choice of rows."""
    runs = [((), (place,))]
    for letter in pile:
        longer = []
        for run, stands in runs:
            ways = [[at for at, row in enumerate(paper) if row[:2] == (stand, letter)] for stand in stands]
            for numbers in itertools.product(*ways):
                layer = tuple(zip(stands, numbers))
                longer.append((run + (layer,), together(paper[number][2] for number in numbers)))
        runs = longer
    return [run for run, stands in runs if set(stands) <= set(saying[2])]


def plain_run_cost(paper, run, stand):
    """The greatest sum along a way, way by way."""
    if not run:
        return 0
    row = paper[dict(run[0])[stand]]
    return row[3] + max((plain_run_cost(paper, run[1:], target) for target in row[2]), default=0)


def some_game(seed, hands=None):
    draw = random.Random(seed)
    places = hands or [draw.randint(0, 1) for place in range(draw.choice((1, 2, 2, 2, 3)))]
    letters = draw.choice((1, 2, 2, 2, 3))
    rules = []
    for turn in range(draw.randint(5, 20)):
        w = tuple(draw.randrange(letters) for letter in range(draw.choice((0, 0, 1, 2, 2))))
        rule = (draw.randrange(len(places)), draw.randrange(letters), draw.randrange(len(places)), w)
        pushes = [other for other in rules if len(other[3]) == 2]
        here = [other for other in rules if other[:2] == rule[:2]]
        if rule in rules or len(rules) == 8 or (len(w) == 2 and len(pushes) == 3):
            continue
        if places[rule[0]] == 0 or len(here) < 2:
            rules.append(rule)
    return (tuple(zip("pqr", places)), tuple("xyz"[:letters]), tuple(rules))


def some_saying(seed, game):
    draw = random.Random(seed)
    places = len(game[0])
    many = draw.choice((0, 1, 2, 2))
    arrows = set()
    for turn in range(draw.randint(0, 8)):
        targets = tuple(own for own in range(places, places + many) if draw.randint(0, 2))
        # Mostly own stands, so that places' arrows must follow by rules.
        stand = draw.randrange(places + many) if turn < 2 or many == 0 else draw.randrange(places, places + many)
        arrows.add((stand, draw.randrange(len(game[1])), targets))
    return (many, tuple(sorted(arrows)), tuple(stand for stand in range(places + many) if draw.randint(0, 1)))


def samples(many, hands=None):
    games = [some_game(seed, hands) for seed in range(many)]
    return [(game, some_saying(seed, game)) for seed, game in enumerate(games)]


def plain_run(program, choices, most):
    """A program gone through step by step, with the calls that are still open."""
    switch, procedure, at, calls, steps, left = 0, 0, 0, [], 0, list(choices)
    while True:
        while at == len(program[1][procedure]):
            if not calls:
                return ("over", steps)
            procedure, at = calls.pop()
        if steps == most:
            return ("more", steps)
        word, *numbers = program[1][procedure][at]
        if word == "mark":
            return ("marked", steps + 1)
        if word in ("ask", "chance") and not left:
            return ("lacks", steps)
        steps += 1
        if word in ("ask", "chance"):
            at = numbers[left.pop(0)]
        elif word == "if":
            at = numbers[0] if switch == 1 else numbers[1]
        elif word == "set":
            switch, at = numbers[0], at + 1
        elif word == "call":
            calls.append((procedure, at + 1))
            procedure, at = numbers[0], 0
        elif calls:
            procedure, at = calls.pop()
        else:
            return ("over", steps)


def some_program(seed):
    draw = random.Random(seed)
    switches = draw.randint(0, 1)
    words = ["ask", "chance", "call", "back", "mark", "ask", "chance", "call"] + ["set", "if"] * 2 * switches
    sizes = [draw.randint(1, 4) for procedure in range(draw.randint(1, 3))]
    procedures = []
    for size in sizes:
        steps = []
        for word in draw.choices(words, k=size):
            if word in ("ask", "chance", "if"):
                steps.append((word, draw.randrange(size), draw.randrange(size)))
            elif word in ("set", "call"):
                steps.append((word, draw.randrange(2 if word == "set" else len(sizes))))
            else:
                steps.append((word,))
        procedures.append(tuple(steps))
    return (switches, tuple(procedures))


def some_runs(many):
    """Programs with choices and most, as a run is asked for."""
    told = []
    for seed in range(many):
        draw = random.Random(seed)
        for turn in range(4):
            choices = tuple(draw.randint(0, 1) for choice in range(draw.randint(0, 12)))
            told.append((some_program(seed), choices, draw.choice((draw.randint(1, 8), draw.randint(1, 60)))))
    return told
