"""Texts and papers near a given one, and piles to a given height, for the tests to walk through."""

import itertools


def changes(text, signs):
    """The text with one sign left out, put in or exchanged, with rows left out, twice, moved, and cut short."""
    told = {}
    for at in range(len(text) + 1):
        told[text[:at]] = True
        told[text[:at] + text[at + 1:]] = True
        for sign in signs:
            told[text[:at] + sign + text[at:]] = True
            told[text[:at] + sign + text[at + 1:]] = True
    rows = text.split("\n")
    for at in range(len(rows)):
        without = rows[:at] + rows[at + 1:]
        told["\n".join(without)] = True
        for to in range(len(rows) + 1):
            told["\n".join(rows[:to] + [rows[at]] + rows[to:])] = True
            told["\n".join(without[:to] + [rows[at]] + without[to:])] = True
    return list(told)


def word_changes(text, words):
    """The text with one word left out, put in or exchanged."""
    told = {}
    rows = [row.split(" ") for row in text.split("\n")]
    for number, row in enumerate(rows):
        for at in range(len(row) + 1):
            others = [row[:at] + row[at + 1:]]
            for word in words:
                others += [row[:at] + [word] + row[at:], row[:at] + [word] + row[at + 1:]]
            for other in others:
                told["\n".join(" ".join(one) for one in rows[:number] + [other] + rows[number + 1:])] = True
    return list(told)


def with_row(paper, number, *row):
    return paper[:number] + (row,) + paper[number + 1:]


def with_why(paper, number, *why):
    return paper[:number] + (paper[number][:4] + (why,),) + paper[number + 1:]


def with_cost(paper, number, cost):
    return with_row(paper, number, *paper[number][:3], cost, paper[number][4])


def dearer(paper, by):
    """The paper with all costs raised, each more than those of the rows it is made of need."""
    return tuple(row[:3] + (row[3] * 2 * by + by * (1 if row[4] else 0), row[4]) for row in paper)


def number_changes(value, numbers):
    """The value with one number in it, however deep, exchanged."""
    if not isinstance(value, tuple):
        return [number for number in numbers if number != value]
    return [value[:at] + (other,) + value[at + 1:] for at in range(len(value))
            for other in number_changes(value[at], numbers)]


def length_changes(values, numbers):
    """The tuple with one thing in it left out, twice or moved, or a number put in."""
    told = {}
    for at in range(len(values) + 1):
        without = values[:at] + values[at + 1:]
        told[without] = True
        for thing in numbers + values[at:at + 1]:
            told[values[:at] + (thing,) + values[at:]] = True
        for to in range(len(without) + 1):
            told[without[:to] + values[at:at + 1] + without[to:]] = True
    return list(told)


def row_changes(row, numbers):
    """A paper's row with one number exchanged, or with its targets, its why or a rest of another length."""
    told = number_changes(row, numbers)
    told += [row[:2] + (targets,) + row[3:] for targets in length_changes(row[2], numbers)]
    told += [row[:4] + (why,) for why in length_changes(row[4], ())]
    for at, triple in enumerate(row[4]):
        for rest in length_changes(triple[2], numbers) + [None]:
            told.append(row[:4] + (row[4][:at] + (triple[:2] + (rest,),) + row[4][at + 1:],))
    return told


def piles(letters, most):
    return [pile for height in range(most + 1) for pile in itertools.product(range(letters), repeat=height)]
