"""Texts near a given one, and piles to a given height, for the tests to walk through."""

import itertools


def changes(text, signs):
    """The text with one sign left out, put in or exchanged, with rows left out, twice, moved, and cut short."""
    told = {}
    for at in range(len(text) + 1):
        told[text[:at]] = True
        told[text[:at] + text[at + 1:]] = True
        for sign in signs:
            told[text[:at] + sign + text[at:]] = True
            told[text[:at] + sign + text[at + 1:]] = True
    rows = text.split("\n")
    for at in range(len(rows)):
        without = rows[:at] + rows[at + 1:]
        told["\n".join(without)] = True
        for to in range(len(rows) + 1):
            told["\n".join(rows[:to] + [rows[at]] + rows[to:])] = True
            told["\n".join(without[:to] + [rows[at]] + without[to:])] = True
    return list(told)


def word_changes(text, words):
    """The text with one word left out, put in or exchanged."""
    told = {}
    rows = [row.split(" ") for row in text.split("\n")]
    for number, row in enumerate(rows):
        for at in range(len(row) + 1):
            others = [row[:at] + row[at + 1:]]
            for word in words:
                others += [row[:at] + [word] + row[at:], row[:at] + [word] + row[at + 1:]]
            for other in others:
                told["\n".join(" ".join(one) for one in rows[:number] + [other] + rows[number + 1:])] = True
    return list(told)


def piles(letters, most):
    return [pile for height in range(most + 1) for pile in itertools.product(range(letters), repeat=height)]
