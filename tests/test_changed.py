import copy
import unittest

from examples import GAME, RICH, WIDE_GAME
from pileduel.changed import renamed, turned, with_rule, without_rule
from pileduel.errors import DuelError, NoFit, NoGame
from pileduel.games import look
from plain import samples

# p is the first's with three rules at x, q the other's with two.
THREE = ((("p", 0), ("q", 1)), ("x", "y"), ((0, 0, 0, ()), (0, 0, 0, (1,)), (1, 0, 0, ()), (0, 0, 1, ()), (1, 0, 1, ())))
# Seven rules, two of them with two letters.
SEVEN = ((("p", 0), ("q", 1)), ("x", "y"), (
    (0, 0, 0, ()), (0, 0, 1, ()), (0, 0, 0, (0, 1)), (0, 1, 0, ()), (0, 1, 1, (1, 1)), (1, 0, 0, ()), (1, 1, 0, (0,)),
))


class ChangedCase(unittest.TestCase):
    def told(self, game, other):
        self.assertEqual(repr(game), repr(other))
        self.assertIs(look(game), True)

    def refused(self, function, *handed):
        with self.assertRaises(DuelError) as caught:
            function(*handed)
        self.assertIs(type(caught.exception), NoFit, handed)


class TurnedTest(ChangedCase):
    def test_each_place_of_the_other_hand(self):
        self.told(turned(WIDE_GAME), ((("p", 1), ("q", 0)),) + WIDE_GAME[1:])
        self.told(turned(((("p", 0),), ("x",), ())), ((("p", 1),), ("x",), ()))
        self.told(turned(((("p", 1), ("q", 1), ("r", 0)), ("x",), ())), ((("p", 0), ("q", 0), ("r", 1)), ("x",), ()))

    def test_turned_again(self):
        fit = 0
        for game in [game for game, saying in samples(100)]:
            try:
                other = turned(game)
            except NoFit:
                continue
            fit += 1
            self.told(turned(other), game)
            self.assertEqual([hand for name, hand in other[0]], [1 - hand for name, hand in game[0]])
        self.assertTrue(10 < fit < 100)

    def test_a_third_rule_at_one_letter_of_the_others_then(self):
        self.refused(turned, THREE)
        self.refused(turned, SEVEN)
        # Two at one letter, and two more at another one, or at another place.
        for gone in (0, 1, 3):
            game = THREE[:2] + (THREE[2][:gone] + THREE[2][gone + 1:],)
            self.told(turned(game), ((("p", 1), ("q", 0)),) + game[1:])
        self.told(turned(((("p", 0),), ("x", "y"), ((0, 0, 0, ()), (0, 1, 0, ()), (0, 0, 0, (0,)), (0, 1, 0, (0,))))), (
            (("p", 1),), ("x", "y"), ((0, 0, 0, ()), (0, 1, 0, ()), (0, 0, 0, (0,)), (0, 1, 0, (0,)))
        ))

    def test_just_as_the_look_at_it_tells(self):
        for game in [game for game, saying in samples(200)] + [game for game, saying in RICH]:
            other = (tuple((name, 1 - hand) for name, hand in game[0]),) + game[1:]
            try:
                look(other)
            except NoGame:
                self.refused(turned, game)
            else:
                self.told(turned(game), other)


class RenamedTest(ChangedCase):
    def test_as_many_names(self):
        self.told(renamed(GAME, ("hall", "yard"), ("a", "b", "c")), ((("hall", 0), ("yard", 1)), ("a", "b", "c"), GAME[2]))
        self.told(renamed(GAME, ("p", "q"), ("x", "y", "z")), GAME)
        self.told(renamed(((("p", 1),), ("x",), ()), ("abcdef",), ("z",)), ((("abcdef", 1),), ("z",), ()))

    def test_names_exchanged(self):
        self.told(renamed(GAME, ("q", "p"), ("z", "x", "y")), ((("q", 0), ("p", 1)), ("z", "x", "y"), GAME[2]))

    def test_places_and_letters_called_alike(self):
        self.told(renamed(WIDE_GAME, ("a", "b"), ("b", "a")), ((("a", 0), ("b", 1)), ("b", "a"), WIDE_GAME[2]))

    def test_renamed_back(self):
        for game in [game for game, saying in samples(60)]:
            names = tuple(name for name, hand in game[0])
            other = renamed(game, ("left", "right", "up")[:len(names)], ("ab", "cd", "ef")[:len(game[1])])
            self.told(renamed(other, names, game[1]), game)

    def test_one_name_more_or_fewer(self):
        for places in ((), ("a",), ("a", "b", "c"), ("a", "b", "c", "d")):
            self.refused(renamed, GAME, places, ("x", "y", "z"))
        for letters in ((), ("a",), ("a", "b"), ("a", "b", "c", "d")):
            self.refused(renamed, GAME, ("p", "q"), letters)
        # Without rules, too, where no letter is missed.
        bare = ((("p", 0), ("q", 1)), ("x", "y"), ())
        for places, letters in ((("p",), ("x", "y")), (("p", "q", "r"), ("x", "y")), (("p", "q"), ("x",)),
                                (("p", "q"), ("x", "y", "z"))):
            self.refused(renamed, bare, places, letters)
        # As many in all, but not of each.
        self.refused(renamed, GAME, ("a", "b", "c"), ("a", "b"))
        self.refused(renamed, WIDE_GAME, ("a",), ("a", "b", "c"))

    def test_two_alike(self):
        self.refused(renamed, GAME, ("a", "a"), ("x", "y", "z"))
        for letters in (("a", "a", "b"), ("a", "b", "a"), ("b", "a", "a"), ("a", "a", "a")):
            self.refused(renamed, GAME, ("p", "q"), letters)
        self.refused(renamed, ((("p", 0), ("q", 0), ("r", 0)), ("x",), ()), ("a", "b", "a"), ("x",))


class WithRuleTest(ChangedCase):
    def test_behind_all(self):
        self.told(with_rule(WIDE_GAME, (0, 0, 0, ())), WIDE_GAME[:2] + (WIDE_GAME[2] + ((0, 0, 0, ()),),))
        self.told(with_rule(((("p", 1),), ("x",), ()), (0, 0, 0, (0, 0))), ((("p", 1),), ("x",), ((0, 0, 0, (0, 0)),)))
        self.told(with_rule(SEVEN, (1, 1, 1, (1, 0))), SEVEN[:2] + (SEVEN[2] + ((1, 1, 1, (1, 0)),),))

    def test_a_place_or_letter_that_is_not_there(self):
        for rule in (
            (2, 0, 0, ()), (-1, 0, 0, ()), (10 ** 30, 0, 0, ()), (0, 2, 0, ()), (0, -1, 0, ()), (0, 10 ** 30, 0, ()),
            (0, 0, 2, ()), (0, 0, -1, ()), (0, 0, -10 ** 30, ()), (0, 0, 0, (2,)), (0, 0, 0, (-1,)), (0, 0, 0, (0, 2)),
            (0, 0, 0, (-1, 0)), (0, 0, 0, (0, -1)),
        ):
            self.refused(with_rule, WIDE_GAME, rule)
            self.refused(with_rule, SEVEN, rule)

    def test_one_that_is_there_already(self):
        for rule in WIDE_GAME[2]:
            self.refused(with_rule, WIDE_GAME, rule)
        for rule in SEVEN[2]:
            self.refused(with_rule, SEVEN, rule)

    def test_a_fourth_with_two_letters(self):
        three = with_rule(SEVEN, (0, 1, 1, (0, 0)))[:2] + (SEVEN[2][1:] + ((0, 1, 1, (0, 0)),),)
        self.assertIs(look(three), True)
        self.refused(with_rule, three, (0, 0, 1, (0, 0)))
        self.told(with_rule(three, (0, 0, 1, (0,))), three[:2] + (three[2] + ((0, 0, 1, (0,)),),))

    def test_a_third_of_the_others_at_one_place_and_letter(self):
        self.refused(with_rule, THREE, (1, 0, 0, (0,)))
        self.refused(with_rule, THREE, (1, 0, 1, (0, 0)))
        self.told(with_rule(THREE, (1, 1, 0, (0,))), THREE[:2] + (THREE[2] + ((1, 1, 0, (0,)),),))
        # Of the first's a fourth and a fifth stand.
        fourth = with_rule(THREE, (0, 0, 1, (0,)))
        self.told(with_rule(fourth, (0, 0, 1, (1,))), THREE[:2] + (THREE[2] + ((0, 0, 1, (0,)), (0, 0, 1, (1,))),))

    def test_a_ninth(self):
        eight = with_rule(SEVEN, (0, 1, 0, (0,)))
        self.assertEqual(len(eight[2]), 8)
        self.refused(with_rule, eight, (0, 1, 1, ()))
        self.refused(with_rule, eight, (1, 1, 1, ()))


class WithoutRuleTest(ChangedCase):
    def test_of_each_number(self):
        for game in (WIDE_GAME, GAME, SEVEN, THREE):
            for k in range(len(game[2])):
                rules = [rule for number, rule in enumerate(game[2]) if number != k]
                self.told(without_rule(game, k), game[:2] + (tuple(rules),))
        self.told(without_rule(((("p", 0),), ("x",), ((0, 0, 0, ()),)), 0), ((("p", 0),), ("x",), ()))

    def test_of_a_number_that_is_not_there(self):
        for game in (WIDE_GAME, SEVEN, THREE):
            many = len(game[2])
            for k in (-1, -2, -many, -many - 1, many, many + 1, 10 ** 30, -10 ** 30):
                self.refused(without_rule, game, k)
        for k in (-1, 0, 1):
            self.refused(without_rule, ((("p", 0),), ("x",), ()), k)

    def test_a_rule_put_behind_and_taken_away_again(self):
        for game in [game for game, saying in samples(80)]:
            if len(game[2]) < 8:
                for rule in ((0, 0, 0, ()), (0, 0, 0, (0,))):
                    if rule not in game[2]:
                        try:
                            more = with_rule(game, rule)
                        except NoFit:
                            continue
                        self.told(without_rule(more, len(game[2])), game)

    def test_all_taken_away(self):
        game = SEVEN
        while game[2]:
            game = without_rule(game, len(game[2]) // 2)
        self.told(game, SEVEN[:2] + ((),))


class HandedInTest(ChangedCase):
    def test_what_is_handed_in_stays_as_it_was(self):
        handed = copy.deepcopy((WIDE_GAME, ("a", "b"), ("c", "d"), (0, 0, 0, ())))
        turned(handed[0])
        renamed(*handed[:3])
        with_rule(handed[0], handed[3])
        without_rule(handed[0], 1)
        self.assertRaises(NoFit, renamed, handed[0], handed[1], ("c", "c"))
        self.assertRaises(NoFit, with_rule, handed[0], (0, 0, 9, ()))
        self.assertEqual(repr(handed), repr((WIDE_GAME, ("a", "b"), ("c", "d"), (0, 0, 0, ()))))

    def test_asked_again_whatever_was_asked_between(self):
        for turn in range(3):
            self.told(turned(turned(WIDE_GAME)), WIDE_GAME)
            self.refused(turned, THREE)
            self.told(without_rule(WIDE_GAME, 0), WIDE_GAME[:2] + (WIDE_GAME[2][1:],))
            self.refused(without_rule, WIDE_GAME, -1)


if __name__ == "__main__":
    unittest.main()
