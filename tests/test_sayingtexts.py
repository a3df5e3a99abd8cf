import copy
import itertools
import re
import unittest

from changes import changes, word_changes
from pileduel.errors import DuelError, NoSaying, NoText
from pileduel.sayings import look_saying
from pileduel.sayingtexts import read_saying, show_saying

GAME = ((("p", 0), ("q", 1)), ("x", "y"), ())
SAYING = (2, ((0, 0, (2,)), (0, 1, ()), (1, 0, (2, 3)), (2, 1, (2,)), (3, 0, (3,))), (1, 2, 3))
TEXT = "\n".join((
    "own 2",
    "arrow p x : 1",
    "arrow p y :",
    "arrow q x : 1 2",
    "arrow 1 y : 1",
    "arrow 2 x : 2",
    "ends q 1 2",
))
# Here a place and a letter are called alike, and both are there in another order.
ALIKE = ((("x", 0), ("y", 1), ("z", 0)), ("z", "x", "y"), ())
ALIKE_SAYING = (1, ((0, 0, (3,)), (0, 1, ()), (1, 2, (3,)), (2, 0, ()), (3, 1, (3,))), (0, 2, 3))
ALIKE_TEXT = "own 1\narrow x z : 1\narrow x x :\narrow y y : 1\narrow z z :\narrow 1 x : 1\nends x z 1"


def number_of(word, game, many):
    names = [name for name, hand in game[0]]
    if word in names:
        return names.index(word)
    return len(names) + int(word) - 1 if re.fullmatch("[1-9][0-9]*", word) else None


def lets_by(game, saying):
    try:
        return look_saying(game, saying)
    except NoSaying:
        return False


def plainly_read(game, text):
    """The saying, or the number of the row by which the text is refused: row by row by what point 12 lets by."""
    rows = text.split("\n")
    own = re.fullmatch("own (0|[1-9][0-9]*)", rows[0])
    if not own or not lets_by(game, (int(own[1]), (), ())):
        return 0
    many, arrows = int(own[1]), ()
    for number, row in enumerate(rows[1:], start=1):
        arrow = re.fullmatch(r"arrow ([a-z0-9]+) ([a-z]+) :((?: [0-9]+)*)", row)
        ends = re.fullmatch(r"ends((?: [a-z0-9]+)*)", row)
        if arrow and arrow[2] in game[1]:
            targets = tuple(number_of(word, game, many) for word in arrow[3].split())
            told = (number_of(arrow[1], game, many), game[1].index(arrow[2]), targets)
            arrows += (told,)
            if None in told or None in targets or not lets_by(game, (many, arrows, ())):
                return number
        elif ends:
            told = tuple(number_of(word, game, many) for word in ends[1].split())
            if None in told or not lets_by(game, (many, arrows, told)):
                return number
            return (many, arrows, told) if number + 1 == len(rows) else number + 1
        else:
            return number
    return len(rows)


class TextCase(unittest.TestCase):
    def refused(self, text, row, game=GAME):
        with self.assertRaises(NoText) as taken:
            read_saying(game, text)
        self.assertEqual(taken.exception.row, row, repr(text))
        self.assertIs(taken.exception.row.__class__, int)
        self.assertIsInstance(taken.exception, DuelError)

    def both_ways(self, saying, text, game=GAME):
        self.assertEqual(show_saying(game, saying), text)
        # Their own words tell tuples from lists and numbers from truths.
        self.assertEqual(repr(read_saying(game, text)), repr(saying))

    def as_plainly_read(self, game, text):
        told = plainly_read(game, text)
        if isinstance(told, int):
            self.refused(text, told, game)
        else:
            self.both_ways(told, text, game)


class BothWaysTest(TextCase):
    def test_an_ordinary_saying(self):
        self.both_ways(SAYING, TEXT)

    def test_the_smallest(self):
        for many in (0, 1, 2):
            self.both_ways((many, (), ()), f"own {many}\nends")

    def test_no_arrows(self):
        self.both_ways((1, (), (0, 2)), "own 1\nends p 1")

    def test_ends_without_stands(self):
        self.both_ways((0, ((1, 1, ()),), ()), "own 0\narrow q y :\nends")

    def test_every_set_of_targets(self):
        for targets, words in (((), ""), ((2,), " 1"), ((3,), " 2"), ((2, 3), " 1 2")):
            self.both_ways((2, ((0, 0, targets),), ()), f"own 2\narrow p x :{words}\nends")

    def test_every_stand(self):
        for stand, word in enumerate(("p", "q", "1", "2")):
            self.both_ways((2, ((stand, 1, ()),), (stand,)), f"own 2\narrow {word} y :\nends {word}")

    def test_every_set_of_ends(self):
        words = ("p", "q", "1", "2")
        for many in range(5):
            for ends in itertools.combinations(range(4), many):
                text = " ".join(["ends"] + [words[end] for end in ends])
                self.both_ways((2, (), ends), "own 2\n" + text)

    def test_own_stands_are_numbered_behind_the_places(self):
        one_place = ((("p", 0),), ("x",), ())
        self.both_ways((2, ((1, 0, (1, 2)),), (2,)), "own 2\narrow 1 x : 1 2\nends 2", one_place)
        three_places = ((("p", 0), ("q", 0), ("r", 1)), ("x",), ())
        self.both_ways((2, ((3, 0, (3, 4)),), (2, 4)), "own 2\narrow 1 x : 1 2\nends r 2", three_places)

    def test_places_and_letters_called_alike(self):
        self.both_ways(ALIKE_SAYING, ALIKE_TEXT, ALIKE)

    def test_names_like_a_kept_word(self):
        for word in ("owns", "ow", "arrows", "arro", "endss", "end", "on", "others", "plac", "rules"):
            game = (((word, 0),), (word,), ())
            self.both_ways((1, ((0, 0, (1,)),), (0,)), f"own 1\narrow {word} {word} : 1\nends {word}", game)

    def test_eight_arrows(self):
        arrows = tuple((stand, letter, ()) for stand in range(4) for letter in range(2))
        rows = [f"arrow {stand} {letter} :" for stand in ("p", "q", "1", "2") for letter in ("x", "y")]
        self.both_ways((2, arrows, (3,)), "\n".join(["own 2"] + rows + ["ends 2"]))

    def test_all_sayings_of_a_small_game(self):
        game = ((("p", 0),), ("x",), ())
        arrows = [(stand, 0, targets) for stand in (0, 1, 2) for targets in ((), (1,), (1, 2), (2,))]
        texts = {}
        for many in range(4):
            for chosen in itertools.combinations(arrows, many):
                for ends in ((), (0,), (1, 2), (0, 1, 2)):
                    saying = (2, chosen, ends)
                    text = show_saying(game, saying)
                    self.assertEqual(read_saying(game, text), saying)
                    self.assertNotIn(text, texts)
                    texts[text] = True


class RefusedTest(TextCase):
    def test_no_signs(self):
        self.refused("", 0)
        self.refused("\n", 0)
        self.refused(" ", 0)

    def test_ends_lacks_behind_all_rows(self):
        self.refused("own 0", 1)
        self.refused("own 2\narrow p x : 1", 2)
        self.refused("own 2\narrow p x : 1\narrow p x : 2", 3)

    def test_how_many_own_stands(self):
        for word in ("3", "4", "10", "-1", "+1", "+0", "-0", "00", "01", "02", "1.", "one", "", "p", "0 ", " 0", "0 0",
                     "1_0", "0x1", "\u0661", "\u00b2", "2\r"):
            self.refused(f"own {word}\nends", 0)
        for row in ("own", "Own 0", "owns 0", "own0", "0", " own 0", "own  0", "own\t0", "ends", "arrow p x :"):
            self.refused(row + "\nends", 0)

    def test_arrows_with_parts_that_are_not_there(self):
        for row in ("arrow r x :", "arrow p z :", "arrow p p :", "arrow x x :", "arrow 3 x :", "arrow 0 x :",
                    "arrow 01 x :", "arrow +1 x :", "arrow -1 x :", "arrow p 1 :", "arrow p x : 3", "arrow p x : 0",
                    "arrow p x : 01", "arrow p x : +1", "arrow p x : 1 3", "arrow p x : x", "arrow p x : r"):
            self.refused("own 2\n" + row + "\nends", 1)
            self.refused("own 2\narrow p x :\n" + row + "\nends", 2)

    def test_own_stands_beyond_how_many_there_are(self):
        self.refused("own 0\narrow 1 x :\nends", 1)
        self.refused("own 0\narrow p x : 1\nends", 1)
        self.refused("own 0\nends 1", 1)
        self.refused("own 1\narrow 2 x :\nends", 1)
        self.refused("own 1\narrow p x : 2\nends", 1)
        self.refused("own 1\nends 2", 1)

    def test_targets_that_are_places(self):
        self.refused("own 2\narrow p x : p\nends", 1)
        self.refused("own 2\narrow p x : q 1\nends", 1)
        self.refused("own 2\narrow p x : 1 q\nends", 1)

    def test_targets_that_do_not_rise(self):
        for targets in ("2 1", "1 1", "2 2", "1 2 2", "1 2 1"):
            self.refused(f"own 2\narrow p x : {targets}\nends", 1)

    def test_words_that_lack_or_are_too_many(self):
        for row in ("arrow", "arrow p", "arrow p x", "arrow p x 1", "arrow p :", "arrow x : 1", "p x : 1",
                    "arrow p x : : 1", "arrow p x ; 1", "arrow p x :1", "arrow p x: 1", "Arrow p x : 1",
                    "arrows p x : 1", "arrow p x y : 1", "end", "Ends", "", "own 2", "place p one", "letter x",
                    "rule p x : p"):
            self.refused("own 2\n" + row + "\nends", 1)

    def test_an_arrow_twice_or_below_the_one_ahead(self):
        rows = ["arrow p x :", "arrow p x : 1", "arrow p x : 1 2", "arrow p x : 2", "arrow p y :", "arrow q x :",
                "arrow 1 x :", "arrow 2 x :"]
        for low, first in enumerate(rows):
            for high, second in enumerate(rows):
                text = f"own 2\n{first}\n{second}\nends"
                if low < high:
                    self.assertEqual(show_saying(GAME, read_saying(GAME, text)), text)
                else:
                    self.refused(text, 2)

    def test_arrows_go_by_numbers_not_by_names(self):
        self.both_ways((0, ((0, 0, ()), (0, 1, ())), ()), "own 0\narrow x z :\narrow x x :\nends", ALIKE)
        self.refused("own 0\narrow x x :\narrow x z :\nends", 2, ALIKE)

    def test_a_ninth_arrow_is_refused_at_its_own_row(self):
        rows = [f"arrow {stand} {letter} :{targets}" for stand in ("p", "q", "1") for letter in ("x", "y")
                for targets in ("", " 1")]
        eight = "\n".join(["own 2"] + rows[:8])
        self.assertEqual(show_saying(GAME, read_saying(GAME, eight + "\nends")), eight + "\nends")
        self.refused("\n".join(["own 2"] + rows[:9] + ["ends"]), 9)
        self.refused("\n".join(["own 2"] + rows[:9]), 9)
        self.refused("\n".join(["own 2"] + rows[:11] + ["ends"]), 9)
        self.refused(eight, 9)

    def test_ends_that_are_refused(self):
        for ends in ("q p", "p p", "1 p", "2 1", "1 1", "r", "x", "3", "0", "01", "+1", "p q 1 2 3", "p 2 1", ":",
                     "p :", "ends"):
            self.refused(f"own 2\nends {ends}", 1)
            self.refused(f"own 2\narrow p x : 1\nends {ends}", 2)
            self.refused(f"own 2\nends {ends}\nends", 1)

    def test_rows_behind_ends(self):
        for row in ("ends", "", "arrow p x :", "own 0", " "):
            self.refused("own 0\nends\n" + row, 2)
            self.refused("own 0\nends\n" + row + "\nends", 2)

    def test_rows_moved(self):
        self.refused("ends\nown 0", 0)
        self.refused("arrow p x :\nown 0\nends", 0)
        self.refused("own 0\nown 0\nends", 1)

    def test_blanks(self):
        for row in (" arrow p x : 1", "arrow p x : 1 ", "arrow  p x : 1", "arrow p  x : 1", "arrow p x  : 1",
                    "arrow p x :  1", "arrow p x : 1  2", "arrow p x : ", "arrow\tp x :"):
            self.refused("own 2\n" + row + "\nends", 1)
        for row in (" ends", "ends ", "ends  p", "ends p ", "ends p  q", "ends\tp"):
            self.refused("own 2\n" + row, 1)

    def test_line_feeds(self):
        self.refused("own 0\nends\n", 2)
        self.refused(TEXT + "\n", 7)
        self.refused("\n" + TEXT, 0)
        self.refused("own 0\n\nends", 1)
        self.refused("own 0\n", 1)
        self.refused("own 0\r\nends", 0)
        self.refused("own 0\x0bends", 0)

    def test_the_first_row_is_told(self):
        self.refused("own 2\narrow p x : 2 1\narrow p x : 2 1\nends q p", 1)
        self.refused("own 3\narrow p x : 2 1\nends", 0)


class NearTest(TextCase):
    def test_signs_and_rows_changed(self):
        for game, text in ((GAME, TEXT), (ALIKE, ALIKE_TEXT), (GAME, "own 0\nends")):
            for near in changes(text, "px 012:\n"):
                self.as_plainly_read(game, near)

    def test_words_changed(self):
        words = ("", "own", "arrow", "ends", ":", "p", "q", "x", "y", "z", "0", "1", "2", "3")
        for game, text in ((GAME, TEXT), (ALIKE, ALIKE_TEXT), (GAME, "own 0\nends")):
            for near in word_changes(text, words):
                self.as_plainly_read(game, near)


class HandedInTest(TextCase):
    def test_what_is_handed_in_stays_as_it_was(self):
        game = copy.deepcopy(GAME)
        saying = copy.deepcopy(SAYING)
        read_saying(game, show_saying(game, saying))
        self.assertEqual(repr((game, saying)), repr((GAME, SAYING)))

    def test_asked_again_whatever_was_asked_between(self):
        for turn in range(3):
            self.both_ways(SAYING, TEXT)
            self.refused(TEXT + "\n", 7)
            self.both_ways(ALIKE_SAYING, ALIKE_TEXT, ALIKE)
            self.refused(TEXT, 1, ALIKE)


if __name__ == "__main__":
    unittest.main()
