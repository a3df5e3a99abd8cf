"""Readings of the letters that a rule puts, by a machine's arrows."""

from pileduel.priced import as_bits, as_stands, one_of_each, thinned


def readings(arrows, stand, w):
    found = readings_by(arrows_by_top(arrows), stand, w, False)
    return sorted([(as_stands(bits), cost) for cost, bits in found])


def arrows_by_top(arrows):
    tops = {}
    for stand, letter, targets, cost in arrows:
        tops.setdefault((stand, letter), [])
        tops[(stand, letter)].append((cost, as_bits(targets)))
    return tops


# With least, only those are told that no other one makes needless, by targets and cost; else all.
def readings_by(tops, stand, w, least):
    if len(w) == 0:
        return [(0, as_bits((stand,)))]
    firsts = tops.get((stand, w[0]), [])
    if len(w) == 1:
        return thinned(firsts, least)
    found = []
    rests = {}
    for cost, bits in firsts:
        # Arrows of the same targets differ in their cost alone.
        if bits not in rests:
            rests[bits] = one_of_each([tops.get((target, w[1]), []) for target in as_stands(bits)], least)
        found.extend([(cost + rest_cost, rest_bits) for rest_cost, rest_bits in rests[bits]])
    return thinned(found, least)
