"""Papers: rows that tell of each arrow why it is right, looked at without any play."""

from pileduel.closing import following, not_kept
from pileduel.errors import NoPaper
from pileduel.games import OTHER_HAND, rules_at
from pileduel.readings import arrows_by_top


def paper_holds(game, saying, paper):
    for number in range(len(paper)):
        if not is_right(game, saying, paper, number):
            raise NoPaper(number)
    if not is_closed(game, saying, paper):
        raise NoPaper(len(paper))
    return True


def is_right(game, saying, paper, number):
    row = paper[number]
    if not is_number(row[3]) or row[3] < 0:
        return False
    if row[4] == ():
        return row[:3] in saying[1]
    if not has_its_rules(game, row):
        return False
    told = [told_reading(game, paper[:number], triple) for triple in row[4]]
    if None in told:
        return False
    return row[2] == all_of([targets for targets, cost in told]) and row[3] > max([cost for targets, cost in told])


def is_number(value):
    return isinstance(value, int) and not isinstance(value, bool)


def has_its_rules(game, row):
    there = rules_at(game, row[0], row[1])
    if len(there) == 0 or not isinstance(row[4], tuple):
        return False
    if not all([isinstance(triple, tuple) and len(triple) == 3 for triple in row[4]]):
        return False
    told = [triple[0] for triple in row[4]]
    if game[0][row[0]][1] == OTHER_HAND:
        return told == there
    return len(told) == 1 and told[0] in there


# The targets and the cost of a triple's reading, or None where it tells none by the rows ahead.
def told_reading(game, ahead, triple):
    place = game[2][triple[0]][2]
    w = game[2][triple[0]][3]
    if len(w) == 0:
        return ((place,), 0) if triple[1:] == (None, ()) else None
    if not is_row_of(ahead, triple[1], place, w[0]):
        return None
    first = ahead[triple[1]]
    seconds = first[2] if len(w) == 2 else ()
    rest = triple[2]
    if not isinstance(rest, tuple) or len(rest) != len(seconds):
        return None
    if len(w) == 1:
        return (first[2], first[3])
    if not all([is_row_of(ahead, number, target, w[1]) for number, target in zip(rest, seconds)]):
        return None
    targets = all_of([ahead[number][2] for number in rest])
    return (targets, first[3] + max([ahead[number][3] for number in rest], default=0))


def is_row_of(ahead, number, stand, letter):
    return is_number(number) and 0 <= number < len(ahead) and ahead[number][:2] == (stand, letter)


def all_of(many_targets):
    stands = []
    for targets in many_targets:
        stands.extend(targets)
    return tuple(sorted(set(stands)))


def is_closed(game, saying, paper):
    # Costs don't count here: without them only few of all that follow need be looked at.
    tops = arrows_by_top([row[:3] + (0,) for row in paper])
    told = arrows_by_top([arrow + (0,) for arrow in saying[1]])
    return len(not_kept(tops, told)) == 0 and len(not_kept(tops, following(game, tops, True))) == 0
