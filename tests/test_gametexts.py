import copy
import re
import unittest

from changes import changes, word_changes
from pileduel.errors import DuelError, NoText
from pileduel.games import look
from pileduel.gametexts import read_game, show_game

GAME = (
    (("hall", 0), ("yard", 1)),
    ("a", "b"),
    ((0, 0, 1, (0, 1)), (1, 0, 0, ()), (1, 1, 1, (1,)), (0, 1, 0, (1, 0))),
)
TEXT = "\n".join((
    "place hall one",
    "place yard other",
    "letter a",
    "letter b",
    "rule hall a : yard a b",
    "rule yard a : hall",
    "rule yard b : yard b",
    "rule hall b : hall b a",
))
SMALL = "place p one\nletter x"
ALIKE = "place x other\nplace y one\nletter y\nletter x\nrule x y : y x y\nrule y x : x"
ALIKE_GAME = ((("x", 1), ("y", 0)), ("y", "x"), ((0, 0, 1, (1, 0)), (1, 1, 0, ())))

NAME = r"(?!(?:place|letter|rule|own|arrow|ends|one|other)(?![a-z]))([a-z]{1,6})"
PLACE = re.compile(rf"place {NAME} (one|other)")
LETTER = re.compile(rf"letter {NAME}")
RULE = re.compile(rf"rule {NAME} {NAME} : {NAME}(?: {NAME})?(?: {NAME})?")


def stands(row, places, letters, rules):
    """Whether the row may stand behind these; if so it is put to them."""
    place = PLACE.fullmatch(row)
    if place:
        fits = not letters and not rules and place[1] not in dict(places)
        places.append((place[1], ("one", "other").index(place[2])))
        return fits
    letter = LETTER.fullmatch(row)
    if letter:
        fits = bool(places) and not rules and letter[1] not in letters
        letters.append(letter[1])
        return fits
    rule = RULE.fullmatch(row)
    if not rule:
        return False
    names = [name for name, hand in places]
    put = [name for name in rule.groups()[3:] if name is not None]
    if not {rule[1], rule[3]} <= set(names) or not {rule[2], *put} <= set(letters):
        return False
    rules.append((names.index(rule[1]), letters.index(rule[2]), names.index(rule[3]), tuple(map(letters.index, put))))
    return True


def plainly_read(text):
    """The game, or the number of the row by which the text is refused, told by another way than the program's."""
    places, letters, rules = [], [], []
    rows = text.split("\n")
    for number, row in enumerate(rows):
        if not stands(row, places, letters, rules):
            return number
    return (tuple(places), tuple(letters), tuple(rules)) if letters else len(rows)


class TextCase(unittest.TestCase):
    def refused(self, text, row):
        with self.assertRaises(NoText) as taken:
            read_game(text)
        self.assertEqual(taken.exception.row, row, repr(text))
        self.assertIs(taken.exception.row.__class__, int)
        self.assertIsInstance(taken.exception, DuelError)

    def both_ways(self, game, text):
        self.assertEqual(show_game(game), text)
        # Their own words tell tuples from lists and numbers from truths.
        self.assertEqual(repr(read_game(text)), repr(game))

    def as_plainly_read(self, text):
        told = plainly_read(text)
        if isinstance(told, int):
            self.refused(text, told)
        else:
            self.both_ways(told, text)


class BothWaysTest(TextCase):
    def test_an_ordinary_game(self):
        self.both_ways(GAME, TEXT)

    def test_the_smallest(self):
        self.both_ways(((("p", 0),), ("x",), ()), SMALL)
        self.both_ways(((("p", 1),), ("x",), ()), "place p other\nletter x")

    def test_places_and_letters_called_alike(self):
        self.both_ways(ALIKE_GAME, ALIKE)
        self.both_ways(((("a", 0),), ("a",), ((0, 0, 0, (0, 0)),)), "place a one\nletter a\nrule a a : a a a")

    def test_none_one_and_two_letters_put(self):
        for put, words in (((), ""), ((0,), " x"), ((1,), " y"), ((0, 1), " x y"), ((1, 0), " y x"), ((1, 1), " y y")):
            game = ((("p", 0),), ("x", "y"), ((0, 1, 0, put),))
            self.both_ways(game, "place p one\nletter x\nletter y\nrule p y : p" + words)

    def test_names_like_a_kept_word(self):
        words = ("plac", "placed", "lette", "rules", "rul", "owns", "ow", "arro", "arrows", "end", "endss", "on",
                 "ones", "othe", "others")
        for word in words:
            game = (((word, 0),), (word,), ((0, 0, 0, (0,)),))
            self.both_ways(game, f"place {word} one\nletter {word}\nrule {word} {word} : {word} {word}")

    def test_order_is_kept(self):
        game = ((("z", 0), ("a", 1), ("m", 0)), ("q", "b", "k"), ((2, 2, 0, ()), (0, 0, 2, ()), (1, 1, 1, ())))
        text = ("place z one\nplace a other\nplace m one\nletter q\nletter b\nletter k\n"
                "rule m k : z\nrule z q : m\nrule a b : a")
        self.both_ways(game, text)

    def test_a_rule_twice_has_its_text_too(self):
        game = ((("p", 1),), ("x",), ((0, 0, 0, ()),) * 3)
        self.both_ways(game, "place p other\nletter x" + "\nrule p x : p" * 3)

    def test_of_any_size(self):
        names = [a + b for a in "abcdefgh" for b in "stuvw"]
        places = tuple((name, number % 2) for number, name in enumerate(names))
        letters = tuple(reversed(names))
        rules = tuple((n % 40, n * 7 % 40, n * 11 % 40, (n % 40, n * 3 % 40)[:n % 3]) for n in range(300))
        game = (places, letters, rules)
        with self.assertRaises(DuelError):
            look(game)
        self.assertEqual(repr(read_game(show_game(game))), repr(game))
        rows = show_game(game).split("\n")
        self.assertEqual(len(rows), 380)
        self.assertEqual(rows[:2] + rows[40:42], ["place as one", "place at other", "letter hw", "letter hv"])
        self.assertEqual(rows[80 + 5], "rule bs aw : ds gw ew")

    def test_games_that_are_refused_for_their_size_alone(self):
        places = tuple((name, 1) for name in "pqrs")
        rules = tuple((p, x, q, (x, x)) for p in range(4) for x in range(4) for q in range(4))
        game = (places, tuple("wxyz"), rules)
        self.assertEqual(repr(read_game(show_game(game))), repr(game))


class RefusedTest(TextCase):
    def test_no_signs(self):
        self.refused("", 0)
        self.refused("\n", 0)
        self.refused(" ", 0)

    def test_a_letter_lacks_behind_all_rows(self):
        self.refused("place p one", 1)
        self.refused("place p one\nplace q other", 2)
        self.refused("place p one\nplace q other\nplace r one\nplace s one", 4)

    def test_a_letter_ahead_of_any_place(self):
        self.refused("letter x", 0)
        self.refused("letter x\nplace p one", 0)

    def test_a_place_behind_a_letter_or_a_rule(self):
        self.refused(SMALL + "\nplace q one", 2)
        self.refused(SMALL + "\nrule p x : p\nplace q one", 3)

    def test_a_letter_behind_a_rule(self):
        self.refused(SMALL + "\nrule p x : p\nletter y", 3)

    def test_a_rule_ahead_of_letters(self):
        self.refused("place p one\nrule p x : p\nletter x", 1)
        self.refused("rule p x : p", 0)

    def test_a_name_that_is_there_already(self):
        self.refused("place p one\nplace p one\nletter x", 1)
        self.refused("place p one\nplace q one\nplace p other\nletter x", 2)
        self.refused("place p one\nletter x\nletter x", 2)
        self.refused("place p one\nletter x\nletter y\nletter x\nrule p x : p", 3)

    def test_a_name_that_is_not_there(self):
        two = "place p one\nplace q other\nletter x\nletter y\n"
        for row in ("rule r x : p", "rule p z : p", "rule p x : r", "rule p x : p z", "rule p x : p x z",
                    "rule p x : p z x", "rule x x : p", "rule p p : p", "rule p x : x", "rule p x : p p"):
            self.refused(two + row, 4)
            self.refused(two + "rule p x : q\n" + row + "\nrule p x : q", 5)

    def test_more_than_two_letters(self):
        self.refused(SMALL + "\nrule p x : p x x x", 2)
        self.refused(SMALL + "\nrule p x : p x x x x", 2)

    def test_words_that_lack_or_are_too_many(self):
        for row in ("rule", "rule p", "rule p x", "rule p x :", "rule p x p", "rule p : p", "rule x : p", "p x : p",
                    "rule p x : : p", "rule p x ; p", "rule p x :p", "rule p x: p", "rule p x : p : x", "Rule p x : p"):
            self.refused(SMALL + "\n" + row, 2)
        for row in ("place", "place q", "place q two", "place q one one", "place one", "place q one other", "q one",
                    "Place q one", "place q One", "place q 0", "places q one"):
            self.refused("place p one\n" + row + "\nletter x", 1)
        for row in ("letter", "letter x y", "x", "Letter x", "letters x", "letter x one"):
            self.refused("place p one\n" + row, 1)

    def test_no_names(self):
        for name in ("one", "other", "place", "letter", "rule", "own", "arrow", "ends", "abcdefg", "A", "a1", "a-b",
                     ":", "", "\u00e4", "a\t"):
            self.refused(f"place {name} one\nletter x", 0)
            self.refused(f"place p one\nletter {name}", 1)

    def test_blanks(self):
        for row in (" place q one", "place q one ", "place  q one", "place q  one", "place\tq one", "  place q one"):
            self.refused("place p one\n" + row + "\nletter x", 1)
        for row in (" letter x", "letter x ", "letter  x", "letter\tx"):
            self.refused("place p one\n" + row, 1)
        for row in (" rule p x : p x", "rule p x : p x ", "rule  p x : p x", "rule p  x : p x", "rule p x  : p x",
                    "rule p x :  p x", "rule p x : p  x", "rule p x : p ", "rule p x : p x  x"):
            self.refused(SMALL + "\n" + row, 2)

    def test_line_feeds(self):
        self.refused(SMALL + "\n", 2)
        self.refused(TEXT + "\n", 8)
        self.refused("\n" + SMALL, 0)
        self.refused("place p one\n\nletter x", 1)
        self.refused("place p one\n", 1)
        self.refused(SMALL + "\n\n", 2)

    def test_only_a_line_feed_parts_rows(self):
        for sign in ("\r", "\r\n", "\x0b", "\x0c", "\x1c", "\x85", "\u2028"):
            self.refused("place p one" + sign + "letter x", 0)
        self.refused("place p one\r\nletter x", 0)
        self.refused("place p one\nletter x\r", 1)

    def test_the_first_row_is_told(self):
        self.refused("place p one\nplace p one\nletter x\nletter x\nrule", 1)
        self.refused("place p one\nletter x\nrule p x : q\nletter x", 2)


class NearTest(TextCase):
    def test_signs_and_rows_changed(self):
        for text in (TEXT, ALIKE, SMALL):
            for near in changes(text, "ax :\n"):
                self.as_plainly_read(near)

    def test_words_changed(self):
        words = ("", "place", "letter", "rule", "one", "other", ":", "x", "y", "z", "hall", "a", "b")
        for text in (TEXT, ALIKE, SMALL):
            for near in word_changes(text, words):
                self.as_plainly_read(near)


class HandedInTest(TextCase):
    def test_what_is_handed_in_stays_as_it_was(self):
        game = copy.deepcopy(GAME)
        show_game(game)
        self.assertEqual(repr(game), repr(GAME))

    def test_asked_again_whatever_was_asked_between(self):
        for turn in range(3):
            self.both_ways(GAME, TEXT)
            self.refused(TEXT + "\n", 8)
            self.both_ways(ALIKE_GAME, ALIKE)
            self.refused("place hall one\nplace hall one", 1)


if __name__ == "__main__":
    unittest.main()
