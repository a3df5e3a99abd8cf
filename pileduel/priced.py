"""Sets of stands, each as one number with a bit for each stand, and priced ones: pairs (cost, bits)."""


def as_bits(stands):
    bits = 0
    for stand in stands:
        bits = bits | 1 << stand
    return bits


def as_stands(bits):
    return tuple([stand for stand in range(bits.bit_length()) if bits >> stand & 1 == 1])


def has_within(lows, bits):
    for low in lows:
        if low & bits == low:
            return True
    return False


def least_alone(pairs):
    kept = []
    lows = []
    # A set within another is never the greater number: sorted, a pair has all ahead of it that may push it out.
    for cost, bits in sorted(pairs):
        if not has_within(lows, bits):
            kept.append((cost, bits))
            lows.append(bits)
    return kept


def thinned(pairs, least):
    return least_alone(pairs) if least else sorted(set(pairs))


def one_of_any(groups, least):
    found = []
    for group in groups:
        found.extend(group)
    return thinned(found, least)


def one_of_each(groups, least):
    found = [(0, 0)]
    # Group by group, alike ones put together, as rows of choices would grow with each group.
    for group in groups:
        found = thinned(each_with_each(found, group), least)
    return found


def each_with_each(pairs, others):
    found = {}
    for cost, bits in pairs:
        for other_cost, other_bits in others:
            found[(max(cost, other_cost), bits | other_bits)] = True
    return list(found)
