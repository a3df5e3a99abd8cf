import itertools
import unittest
from unittest import mock

from changes import changes, piles, word_changes
from examples import GAME, RICH, SAYING, WIDE_GAME, WIDE_SAYING
from pileduel.closing import machine
from pileduel.desk import Desk
from pileduel.errors import DuelError, NoGame, NoRow, NoText, TooMany
from pileduel.games import look
from pileduel.gametexts import read_game, show_game
from pileduel.joined import either
from pileduel.otherplan import plan_of
from pileduel.papermaker import paper_for
from pileduel.runs import least_cost, rule_to_go, run_from
from pileduel.sayings import is_in
from pileduel.sayingtexts import read_saying, show_saying
from pileduel.within import least_moves
from plain import samples

# p is the first's, q the other's; p takes x off, or hands over; q takes x off, y has no rule.
GAME_TEXT = "place p one ; place q other ; letter x ; letter y ; rule p x : p ; rule p x : q x ; rule q x : p ; rule q x : p x"
SAYING_TEXT = "own 0 ; ends p"
OTHER_TEXT = "own 1 ; arrow q y : 1 ; arrow 1 x : ; ends"
GAME_ROW = "game " + GAME_TEXT
SAYING_ROW = "saying " + SAYING_TEXT
# Rows that need a saying, with their answers behind the rows above.
ASKED = {
    "who p": "first 0", "who q": "other", "who p x": "first 1", "who q x x": "first 3", "who p x y": "other",
    "move p": "there", "move q": "none", "move p x": "0", "move q x": "none", "move p y": "none", "move p x y": "none",
    "least p": "0", "least q": "none", "least p x x x x x x": "6", "least q x": "2", "least q x x x x x": "6",
    "least q x x x x x x": "none", "least q y": "none", "arrows": "2", "plan": "1",
}
# Rows that are none, whatever is kept.
NO_ROWS = (
    "", " ", "  ", "\n", "desk", "Who p", "who", "move", "least", "who ", "move ", "least ", "who  p", "who p ", " who p",
    "who p  x", "who p x ", "who x", "who y x", "move x", "least x x", "who r", "who p z", "who p x z", "who p p", "who 0",
    "who p 0", "who p x x x x x x x", "move p x x x x x x x", "least p x x x x x x x", "arrows ", " arrows", "arrows p",
    "arrows x", "arrows  ", "plan ", " plan", "plan p", "plan 1", "arrow", "plans", "game", "saying", " game", "games x",
    " " + GAME_ROW, " " + SAYING_ROW, "who\np", "who p\n", "\nwho p", "arrows\n", "plan\n", "plan\nplan", "who p\nx",
    GAME_ROW + "\n", SAYING_ROW + "\n", "game\n" + GAME_TEXT, GAME_ROW.replace(" ; ", "\n"), "saying own 0\nends p",
    "look", "kept", "who p ; x", "who p;x", "WHO p", "who P", "who,p", "quit", "?",
)


def kept(game_row=GAME_ROW, saying_row=SAYING_ROW):
    desk = Desk()
    for row in (game_row, saying_row):
        if row is not None:
            assert desk.say(row) == "kept"
    return desk


class DeskCase(unittest.TestCase):
    def told(self, desk, row, answer):
        self.assertEqual(repr(desk.say(row)), repr(answer), row)

    def refused(self, desk, said, kind, **fields):
        with self.assertRaises(DuelError) as caught:
            desk.say(said)
        self.assertIs(type(caught.exception), kind, said)
        self.assertEqual(repr(vars(caught.exception)), repr(fields), said)

    def answers_as(self, desk, answers):
        for row, answer in answers.items():
            self.told(desk, row, answer)


class KeptTest(DeskCase):
    def test_before_a_game(self):
        desk = Desk()
        for row in list(ASKED) + [SAYING_ROW, "saying ", "saying own 7"]:
            self.refused(desk, row, NoRow)

    def test_with_a_game_alone(self):
        desk = kept(saying_row=None)
        for row in ASKED:
            self.refused(desk, row, NoRow)
        self.told(desk, SAYING_ROW, "kept")

    def test_with_a_game_and_a_saying(self):
        self.answers_as(kept(), ASKED)

    def test_a_game_again_has_no_saying(self):
        desk = kept()
        self.told(desk, GAME_ROW, "kept")
        for row in ASKED:
            self.refused(desk, row, NoRow)
        self.told(desk, SAYING_ROW, "kept")
        self.answers_as(desk, ASKED)

    def test_a_saying_again(self):
        desk = kept()
        self.told(desk, "saying " + OTHER_TEXT, "kept")
        self.answers_as(desk, {"who p": "other", "who q y x": "first 0", "move q y x": "there", "least q y x": "0"})
        self.told(desk, SAYING_ROW, "kept")
        self.answers_as(desk, ASKED)

    def test_another_game(self):
        desk = kept()
        self.told(desk, "game place hall one ; letter a ; rule hall a : hall", "kept")
        self.refused(desk, SAYING_ROW, NoText, row=1)
        self.told(desk, "saying own 0 ; ends hall", "kept")
        self.told(desk, "who hall a a", "first 2")
        self.refused(desk, "who p", NoRow)

    def test_places_and_letters_called_alike(self):
        desk = kept("game place x one ; place y one ; letter y ; letter x ; rule x x : x ; rule x y : y", "saying own 0 ; ends y")
        self.answers_as(desk, {
            "who x x y": "first 2", "move x x y": "0", "move x y": "1", "who y": "first 0", "who x x": "other", "who x y": "first 1",
        })

    def test_two_desks_share_nothing(self):
        one, two = kept(), Desk()
        self.refused(two, "who p", NoRow)
        self.told(two, "game place p other ; letter x", "kept")
        self.refused(two, "arrows", NoRow)
        self.told(two, "saying own 0 ; ends", "kept")
        self.answers_as(one, ASKED)
        self.answers_as(two, {"who p x": "other", "arrows": "0", "plan": "0", "least p": "none", "move p": "none"})
        self.told(one, GAME_ROW, "kept")
        self.told(two, "who p", "other")
        self.refused(one, "who p", NoRow)


class NoRowTest(DeskCase):
    def test_what_is_no_row(self):
        for row in NO_ROWS:
            self.refused(Desk(), row, NoRow)
            self.refused(kept(saying_row=None), row, NoRow)
            self.refused(kept(), row, NoRow)

    def test_six_letters_and_seven(self):
        for letters in itertools.product("xy", repeat=6):
            row = " ".join(letters)
            for word in ("who", "move", "least"):
                self.assertIsInstance(kept().say(f"{word} p {row}"), str)
                self.refused(kept(), f"{word} p {row} x", NoRow)

    def test_rows_one_word_or_sign_away(self):
        told = 0
        words = ("who", "move", "least", "p", "q", "x", "y", "")
        for row in word_changes("who p x", words) + word_changes("least q x y", words) + changes("move p x", " pqxyz;\n"):
            parts = row.split(" ")
            good = parts[0] in ("who", "move", "least") and parts[1:2] in (["p"], ["q"]) and set(parts[2:]) <= {"x", "y"}
            if good:
                told += isinstance(kept().say(row), str)
            else:
                self.refused(kept(), row, NoRow)
        self.assertGreater(told, 20)

    def test_ahead_of_the_machine(self):
        # What is no row is refused as such, though the machine has too many arrows, too.
        with mock.patch("pileduel.desk.MOST_ARROWS", 1):
            self.refused(kept(), "who p x", TooMany, most=1)
            for row in ("who p z", "who r x", "who p x x x x x x x", "arrows p", "plan "):
                self.refused(kept(), row, NoRow)


class TextsTest(DeskCase):
    def test_texts_without_signs(self):
        self.refused(Desk(), "game ", NoText, row=0)
        self.refused(kept(), "game ", NoText, row=0)
        self.refused(kept(), "saying ", NoText, row=0)
        self.refused(Desk(), "saying ", NoRow)

    def test_no_text_of_a_game(self):
        for text, row in (
            (" " + GAME_TEXT, 0), (GAME_TEXT + " ", 7), (GAME_TEXT + " ; ", 8), (GAME_TEXT + " ;", 7), ("; " + GAME_TEXT, 0),
            (" ; " + GAME_TEXT, 0), ("place p one", 1), ("place p one ; letter", 1), ("letter x", 0), ("place p", 0),
            ("place p one ; place p one ; letter x", 1), ("place p one ; letter x ; rule p y : p", 2),
            ("place p one ;letter x", 0), ("place p one; letter x", 0), ("place p one  ; letter x", 0),
            ("place p one ; ; letter x", 1), ("place p one ;  letter x", 1), ("place p one ; letter x ; rule p x : p x x x", 2),
            ("place place one", 0), ("place p one ; letter abcdefg", 1),
        ):
            self.refused(Desk(), "game " + text, NoText, row=row)
            desk = kept()
            self.refused(desk, "game " + text, NoText, row=row)
            self.answers_as(desk, ASKED)

    def test_no_game(self):
        start = "place p one ; place q other ; letter x"
        rules = " ; rule q x : p ; rule q x : q"
        for text, word, at in (
            ("place p one ; place q one ; place r one ; place s one ; letter x", "places", 4),
            ("place p one ; letter a ; letter b ; letter c ; letter d", "letters", 4),
            (start + " ; rule p x : p ; rule p x : p", "rule", 1),
            (start + rules + " ; rule q x : p x", "many", 2),
            (start + " ; rule p x : p x x ; rule p x : q x x ; rule q x : p x x ; rule q x : q x x", "pushes", 3),
            ("place p one ; place q one ; place r one ; letter x" + "".join(
                f" ; rule p x : {place}{put}" for put in ("", " x", " x x") for place in "pqr"
            ), "rules", 9),
        ):
            self.refused(Desk(), "game " + text, NoGame, word=word, at=at)
            desk = kept()
            self.refused(desk, "game " + text, NoGame, word=word, at=at)
            self.answers_as(desk, ASKED)

    def test_no_text_of_a_saying(self):
        for text, row in (
            ("own 3 ; ends", 0), ("own", 0), (" own 0 ; ends", 0), ("own 0", 1), ("own 0 ; ends r", 1), ("own 0 ; ends q p", 1),
            ("own 0 ; ends ; ends", 2), ("own 1 ; arrow p x : 2 ; ends", 1), ("own 1 ; arrow p z : ; ends", 1),
            ("own 0 ; ends ", 1), ("own 0 ; ends ; ", 2), ("own 0 ; ends ;", 1), ("own 0; ends", 0),
            ("own 0 ; arrow p y : ; arrow p x : ; ends", 2), ("own 0 ; arrow p x : ; arrow p x : ; ends", 2),
            ("own 2" + "".join(
                f" ; arrow {stand} {letter} :{targets}" for stand in ("p", "q") for letter in "xy"
                for targets in ("", " 1", " 1 2")
            ) + " ; ends", 9),
        ):
            self.refused(Desk(), "saying " + text, NoRow)
            desk = kept(saying_row=None)
            self.refused(desk, "saying " + text, NoText, row=row)
            self.refused(desk, "who p", NoRow)
            desk = kept()
            self.refused(desk, "saying " + text, NoText, row=row)
            self.answers_as(desk, ASKED)

    def test_just_as_the_functions_refuse(self):
        seen = {}
        for text in changes(GAME_TEXT.replace(" ; ", "\n"), "px :\n"):
            row = "game " + text.replace("\n", " ; ")
            answer = self.answer(lambda: look(read_game(text)) and "kept")
            self.assertEqual(self.answer(lambda: Desk().say(row)), answer, row)
            seen[answer[0]] = True
        self.assertEqual(set(seen), {"kept", NoText, NoGame})
        game = read_game(GAME_TEXT.replace(" ; ", "\n"))
        for text in changes(OTHER_TEXT.replace(" ; ", "\n"), "q1x :\n"):
            row = "saying " + text.replace("\n", " ; ")
            answer = self.answer(lambda: read_saying(game, text) and "kept")
            self.assertEqual(self.answer(lambda: kept().say(row)), answer, row)

    def answer(self, asked):
        try:
            return (asked(),)
        except DuelError as refusal:
            return (type(refusal), vars(refusal))


class AnswersTest(DeskCase):
    def test_an_empty_pile_and_six_letters(self):
        desk = kept()
        self.answers_as(desk, {
            "who p": "first 0", "who q": "other", "who p x x x x x x": "first 6", "who q x x x x x x": "first 7",
            "who p x x x x x y": "other", "move p": "there", "move q": "none", "move p x x x x x x": "0",
            "move q x x x x x x": "none", "least p": "0", "least q": "none", "least p x x x x x x": "6",
        })

    def test_move_at_the_others_place(self):
        desk = kept(saying_row="saying own 0 ; arrow q x : ; ends q")
        # In the saying, and read but not in the saying.
        self.answers_as(desk, {"move q x": "there", "move q": "there", "move p x": "1", "who p x": "first 1", "move q y": "none"})
        desk = kept()
        self.answers_as(desk, {"who q x": "first 2", "move q x": "none"})

    def test_there_ahead_of_all(self):
        # In the saying though a rule may be gone by.
        desk = kept(saying_row="saying own 1 ; arrow p x : 1 ; arrow 1 x : 1 ; ends p 1")
        self.answers_as(desk, {"move p x": "there", "move p x x x": "there", "who p x": "first 0", "move p": "there"})
        with mock.patch("pileduel.desk.MOST_ARROWS", 1):
            self.told(desk, "move p x", "there")
            self.refused(desk, "who p x", TooMany, most=1)

    def test_as_the_functions_tell(self):
        told = {}
        for game, saying in [(GAME, SAYING), (WIDE_GAME, WIDE_SAYING)] + samples(40) + list(RICH):
            desk = kept(*[f"{word} {text}".replace("\n", " ; ") for word, text in (
                ("game", show_game(game)), ("saying", show_saying(game, saying)),
            )])
            paper = paper_for(game, saying)
            self.told(desk, "arrows", str(len(machine(game, saying))))
            self.told(desk, "plan", str(len(plan_of(game, saying, paper))))
            for place, pile in itertools.product(range(len(game[0])), piles(len(game[1]), 2)):
                here = " ".join([game[0][place][0]] + [game[1][letter] for letter in pile])
                cost = least_cost(saying, paper, place, pile)
                moves = least_moves(game, saying, place, pile)
                move = self.plain_move(game, saying, paper, place, pile)
                self.told(desk, "who " + here, "other" if cost is None else f"first {cost}")
                self.told(desk, "least " + here, "none" if moves is None else str(moves))
                self.told(desk, "move " + here, move)
                told[move] = True
        self.assertGreater(len(told), 6)

    def plain_move(self, game, saying, paper, place, pile):
        if is_in(saying, place, pile):
            return "there"
        run = run_from(saying, paper, place, pile)
        if run is None or game[0][place][1] == 1:
            return "none"
        return str(rule_to_go(game, paper, place, run))

    def test_by_its_moves_the_first_comes_there(self):
        desk = kept("game place p one ; place q one ; letter a ; letter b ; rule p a : q b ; rule q b : p ; rule p b : p a",
                    "saying own 0 ; ends p")
        self.answers_as(desk, {"move p b": "2", "move p a": "0", "move q b": "1", "move p": "there", "who p b": "first 3"})


class TooManyTest(DeskCase):
    def large(self, many):
        """A desk with a saying of so many arrows, as joined ones have them; by its rows none comes to so many."""
        desk = kept()
        game = read_game(GAME_TEXT.replace(" ; ", "\n"))
        own = tuple((stand, letter, (stand,)) for stand in (2, 3) for letter in (0, 1))
        saying = (0, (), (0,))
        while len(saying[1]) < many:
            saying = either(game, saying, (2, own[:many - len(saying[1])], ()))
        desk.saying = saying
        return desk

    def test_more_than_two_hundred_arrows(self):
        # Two arrows more follow by the rules.
        desk = self.large(198)
        self.answers_as(desk, {"arrows": "200", "who p x": "first 1", "move p x": "0", "least p x": "1", "plan": "1"})
        desk = self.large(199)
        for row in ("arrows", "plan", "who p x", "who p", "who q", "move p x", "move p y"):
            self.refused(desk, row, TooMany, most=200)
        self.answers_as(desk, {"move p": "there", "least p x": "1", "least q y": "none"})
        # What is refused changes nothing.
        self.refused(desk, "arrows", TooMany, most=200)
        self.told(desk, GAME_ROW, "kept")


class AskedAgainTest(DeskCase):
    def test_what_is_refused_changes_nothing(self):
        desk = kept()
        for row in NO_ROWS + ("game ", "game x", "saying ", "saying own 3", "game place p one ; letter x ; rule p x : q"):
            self.assertRaises(DuelError, desk.say, row)
            self.told(desk, "who q x x", "first 3")
        self.answers_as(desk, ASKED)

    def test_asked_again_whatever_was_asked_between(self):
        desk = kept()
        for turn in range(2):
            for row in ASKED:
                self.told(desk, row, ASKED[row])
            for row in reversed(list(ASKED)):
                self.told(desk, row, ASKED[row])

    def test_asking_keeps_nothing(self):
        desk = kept()
        before = repr(vars(desk))
        self.answers_as(desk, ASKED)
        self.assertEqual(repr(vars(desk)), before)


if __name__ == "__main__":
    unittest.main()
