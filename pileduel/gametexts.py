"""Games as texts: written, and read back."""

from pileduel.errors import NoText
from pileduel.names import is_name, numbers_by_name

HAND_WORDS = ("one", "other")
MOST_PUT = 2


def show_game(game):
    rows = [["place", name, HAND_WORDS[hand]] for name, hand in game[0]]
    rows.extend([["letter", name] for name in game[1]])
    rows.extend([rule_words(game, rule) for rule in game[2]])
    return "\n".join([" ".join(words) for words in rows])


def rule_words(game, rule):
    places = game[0]
    letters = game[1]
    words = ["rule", places[rule[0]][0], letters[rule[1]], ":", places[rule[2]][0]]
    return words + [letters[letter] for letter in rule[3]]


def read_game(text):
    rows = [row.split(" ") for row in text.split("\n")]
    hands = read_places(rows)
    letters = []
    # Ahead of any place's row no letter's row may stand.
    if len(hands) > 0:
        letters = read_letters(rows[len(hands):])
    rules = read_rules(rows[len(hands) + len(letters):], list(hands), letters)
    # Each part was read as far as its rows may stand, so the row behind all of them can't, or a letter lacks there.
    at = len(hands) + len(letters) + len(rules)
    if at < len(rows) or len(letters) == 0:
        raise NoText(at)
    return (tuple(hands.items()), tuple(letters), tuple(rules))


def read_places(rows):
    hands = {}
    for words in rows:
        if len(words) != 3 or words[0] != "place" or words[2] not in HAND_WORDS:
            break
        if not is_name(words[1]) or words[1] in hands:
            break
        hands[words[1]] = HAND_WORDS.index(words[2])
    return hands


def read_letters(rows):
    letters = {}
    for words in rows:
        if len(words) != 2 or words[0] != "letter" or not is_name(words[1]) or words[1] in letters:
            break
        letters[words[1]] = True
    return list(letters)


def read_rules(rows, places, letters):
    place_numbers = numbers_by_name(places)
    letter_numbers = numbers_by_name(letters)
    rules = []
    for words in rows:
        rule = read_rule(words, place_numbers, letter_numbers)
        if rule is None:
            break
        rules.append(rule)
    return rules


def read_rule(words, place_numbers, letter_numbers):
    if not 5 <= len(words) <= 5 + MOST_PUT or words[0] != "rule" or words[3] != ":":
        return None
    if words[1] not in place_numbers or words[4] not in place_numbers:
        return None
    if not all([word in letter_numbers for word in [words[2]] + words[5:]]):
        return None
    put = tuple([letter_numbers[word] for word in words[5:]])
    return (place_numbers[words[1]], letter_numbers[words[2]], place_numbers[words[4]], put)
