"""Sayings as texts: written, and read back by a game."""

from pileduel.errors import NoText
from pileduel.names import numbers_by_name
from pileduel.sayings import MOST_ARROWS, MOST_OWN, are_ends, may_stand_behind


def show_saying(game, saying):
    stands = stand_words(game, saying[0])
    rows = [["own", str(saying[0])]]
    for arrow in saying[1]:
        words = ["arrow", stands[arrow[0]], game[1][arrow[1]], ":"]
        rows.append(words + [stands[target] for target in arrow[2]])
    rows.append(["ends"] + [stands[end] for end in saying[2]])
    return "\n".join([" ".join(words) for words in rows])


def stand_words(game, many):
    # Names are without digits, so a place is never called as an own stand is.
    return [name for name, hand in game[0]] + [str(number + 1) for number in range(many)]


def read_saying(game, text):
    rows = [row.split(" ") for row in text.split("\n")]
    many = read_own(rows[0])
    if many is None:
        raise NoText(0)
    arrows = read_arrows(game, many, rows[1:])
    # The arrows were read as far as their rows may stand: here ends must be.
    at = 1 + len(arrows)
    if at == len(rows):
        raise NoText(at)
    ends = read_ends(game, many, rows[at])
    if ends is None:
        raise NoText(at)
    if at + 1 < len(rows):
        raise NoText(at + 1)
    return (many, tuple(arrows), ends)


def read_own(words):
    # The words are compared, not the numbers, as int would also take 00 or +1.
    for many in range(MOST_OWN + 1):
        if words == ["own", str(many)]:
            return many
    return None


def read_arrows(game, many, rows):
    stands = numbers_by_name(stand_words(game, many))
    letters = numbers_by_name(game[1])
    arrows = []
    for words in rows[:MOST_ARROWS]:
        arrow = read_arrow(words, stands, letters)
        if arrow is None or not may_stand_behind(game, many, arrows, arrow):
            break
        arrows.append(arrow)
    return arrows


def read_arrow(words, stands, letters):
    if len(words) < 4 or words[0] != "arrow" or words[3] != ":":
        return None
    targets = read_stands(words[4:], stands)
    if words[1] not in stands or words[2] not in letters or targets is None:
        return None
    return (stands[words[1]], letters[words[2]], targets)


def read_ends(game, many, words):
    ends = read_stands(words[1:], numbers_by_name(stand_words(game, many)))
    if words[0] != "ends" or ends is None or not are_ends(game, many, ends):
        return None
    return ends


def read_stands(words, stands):
    if not all([word in stands for word in words]):
        return None
    return tuple([stands[word] for word in words])
