"""Papers written: a row for each arrow of the machine, each with a why of rows ahead."""

from pileduel.closing import machine
from pileduel.games import OTHER_HAND, rules_at


def paper_for(game, saying, most=200):
    arrows = sorted(machine(game, saying, most), key=lambda arrow: (arrow[3], arrow))
    paper = []
    for arrow in arrows:
        paper.append(arrow + (why_of(game, paper, arrow),))
    return tuple(paper)


# Any reading of rows ahead within the arrow's targets and cost will do: put together they are never less than the
# arrow, as then it would not be kept, so they are just it.
def why_of(game, ahead, arrow):
    if arrow[3] == 0:
        return ()
    triples = [triple_within(game, ahead, rule, arrow) for rule in rules_at(game, arrow[0], arrow[1])]
    if game[0][arrow[0]][1] == OTHER_HAND:
        return tuple(triples)
    return tuple([triple for triple in triples if triple is not None][:1])


def triple_within(game, ahead, rule, arrow):
    place = game[2][rule][2]
    w = game[2][rule][3]
    if len(w) == 0:
        return (rule, None, ()) if place in arrow[2] else None
    if len(w) == 1:
        first = row_within(ahead, place, w[0], arrow[2], arrow[3] - 1)
        return None if first is None else (rule, first, ())
    for first, row in enumerate(ahead):
        if row[:2] == (place, w[0]):
            left = arrow[3] - 1 - row[3]
            rest = [row_within(ahead, target, w[1], arrow[2], left) for target in row[2]]
            if left >= 0 and None not in rest:
                return (rule, first, tuple(rest))
    return None


def row_within(ahead, stand, letter, targets, most_cost):
    for number, row in enumerate(ahead):
        if row[:2] == (stand, letter) and row[3] <= most_cost and all([target in targets for target in row[2]]):
            return number
    return None
