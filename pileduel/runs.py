"""Runs of a paper that holds: the first hand's plan from where one stands."""

from pileduel.games import OTHER_HAND


def run_from(saying, paper, place, pile):
    layers = best_layers(saying, paper, pile)
    if place not in layers[0]:
        return None
    run = []
    stands = [place]
    # The last layer is of the pile without letters, where no row is.
    for layer in layers[:-1]:
        pairs = tuple([(stand, layer[stand][1]) for stand in stands])
        run.append(pairs)
        stands = stands_beneath(paper, pairs)
    return tuple(run)


def least_cost(saying, paper, place, pile):
    best = best_layers(saying, paper, pile)[0]
    return best[place][0] if place in best else None


# For each letter, the top's first, and behind the last: the stands that read from there, each with the least cost
# and a row of that cost.
def best_layers(saying, paper, pile):
    layer = {}
    for end in saying[2]:
        layer[end] = (0, None)
    layers = [layer]
    for letter in reversed(pile):
        layer = best_rows(paper, letter, layer)
        layers.append(layer)
    return list(reversed(layers))


def best_rows(paper, letter, beneath):
    best = {}
    for number, row in enumerate(paper):
        if row[1] == letter and all([target in beneath for target in row[2]]):
            cost = row[3] + max([beneath[target][0] for target in row[2]], default=0)
            if row[0] not in best or cost < best[row[0]][0]:
                best[row[0]] = (cost, number)
    return best


def run_cost(paper, run):
    costs = {}
    for pairs in reversed(run):
        beneath = costs
        costs = {}
        for stand, number in pairs:
            # Behind the last letter there are no costs.
            ways = [beneath.get(target, 0) for target in paper[number][2]]
            costs[stand] = paper[number][3] + max(ways, default=0)
    # At the top there is the place's stand alone, and no stand where there are no letters.
    return sum(costs.values())


def stands_beneath(paper, pairs):
    stands = []
    for stand, number in pairs:
        stands.extend(paper[number][2])
    return sorted(set(stands))


# The why of the place's row; none where the pile is empty.
def top_why(paper, run):
    return paper[run[0][0][1]][4] if len(run) > 0 else ()


def rule_to_go(game, paper, place, run):
    why = top_why(paper, run)
    if len(why) == 0 or game[0][place][1] == OTHER_HAND:
        return None
    return why[0][0]


def run_behind(game, paper, run, rule):
    triple = [one for one in top_why(paper, run) if one[0] == rule][0]
    place = game[2][rule][2]
    put = layers_put(paper, place, len(game[2][rule][3]), triple)
    stands = stands_beneath(paper, put[-1]) if len(put) > 0 else [place]
    return put + of_targets_still(paper, stands, run[1:])


def layers_put(paper, place, letters, triple):
    first = triple[1]
    if letters == 0:
        return ()
    if letters == 1:
        return (((place, first),),)
    return (((place, first),), tuple(zip(paper[first][2], triple[2])))


def of_targets_still(paper, stands, beneath):
    told = []
    for layer in beneath:
        pairs = tuple([pair for pair in layer if pair[0] in stands])
        told.append(pairs)
        stands = stands_beneath(paper, pairs)
    return tuple(told)
