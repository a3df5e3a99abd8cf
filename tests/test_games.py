import copy
import unittest

from pileduel.errors import DuelError, NoGame
from pileduel.games import look, rules_at

PLACES = (("hall", 0), ("yard", 1))
LETTERS = ("a", "b")
RULES = ((0, 0, 1, (0, 1)), (1, 0, 0, ()), (1, 0, 1, (1,)), (0, 0, 0, ()))
GAME = (PLACES, LETTERS, RULES)

WIDE_PLACES = (("p", 0), ("q", 1), ("r", 0))
WIDE_LETTERS = ("x", "y", "z")
# Of the first hand's places, none with two letters: only how many there are may hinder.
PLAIN_RULES = tuple((0, x, q, (y,)) for x in range(3) for q in range(2) for y in range(3))


def wide(*rules):
    return (WIDE_PLACES, WIDE_LETTERS, rules)


def named(places, letters):
    return (tuple((name, 0) for name in places), tuple(letters), ())


class LookCase(unittest.TestCase):
    def refused(self, game, word, at):
        with self.assertRaises(NoGame) as taken:
            look(game)
        self.assertEqual((taken.exception.word, taken.exception.at), (word, at), game)
        self.assertIsInstance(taken.exception, DuelError)
        self.assertNotIsInstance(taken.exception.at, bool)

    def let_by(self, game):
        self.assertIs(look(game), True, game)


class LookSizesTest(LookCase):
    def test_an_ordinary_game(self):
        self.let_by(GAME)

    def test_how_many_places(self):
        for many in range(6):
            game = named("pqrstu"[:many], "x")
            if 1 <= many <= 3:
                self.let_by(game)
            else:
                self.refused(game, "places", many)

    def test_how_many_letters(self):
        for many in range(6):
            game = named("p", "xyzuvw"[:many])
            if 1 <= many <= 3:
                self.let_by(game)
            else:
                self.refused(game, "letters", many)

    def test_places_are_told_ahead_of_letters(self):
        self.refused(named("", ""), "places", 0)
        self.refused(named("pqrs", ""), "places", 4)
        self.refused(named("", "xyzuv"), "places", 0)

    def test_either_hand_may_have_all_places_or_none(self):
        for hand in (0, 1):
            self.let_by(((("p", hand), ("q", hand), ("r", hand)), ("x",), ()))

    def test_eight_rules_and_nine(self):
        self.let_by(wide(*PLAIN_RULES[:8]))
        self.refused(wide(*PLAIN_RULES[:9]), "rules", 9)
        self.refused(wide(*PLAIN_RULES[:14]), "rules", 14)

    def test_no_rules(self):
        self.let_by(wide())


class LookTwiceTest(LookCase):
    def test_a_place_called_as_one_ahead(self):
        self.refused(named(("p", "p"), "x"), "twice", 1)
        self.refused(named(("p", "q", "p"), "x"), "twice", 2)
        self.refused(named(("p", "q", "q"), "x"), "twice", 2)
        self.refused(named(("p", "p", "p"), "x"), "twice", 1)

    def test_a_place_called_alike_but_of_the_other_hand(self):
        self.refused(((("p", 0), ("p", 1)), ("x",), ()), "twice", 1)

    def test_a_letter_called_as_one_ahead(self):
        self.refused(named("p", ("x", "x")), "twice", 1)
        self.refused(named("p", ("x", "y", "x")), "twice", 2)
        self.refused(named("p", ("x", "y", "y")), "twice", 2)

    def test_places_first_then_letters(self):
        self.refused(named(("p", "q", "q"), ("x", "x")), "twice", 2)

    def test_names_that_only_begin_alike(self):
        self.let_by(named(("p", "pp", "ppp"), ("x", "xx", "xxx")))

    def test_places_and_letters_called_alike(self):
        self.let_by(named(("a", "b", "c"), ("a", "b", "c")))
        self.let_by(named(("a", "b", "c"), ("c", "b", "a")))
        self.let_by(((("a", 1),), ("a",), ((0, 0, 0, (0, 0)),)))

    def test_told_behind_the_sizes(self):
        self.refused(named(("p", "p", "p", "p"), "x"), "places", 4)
        self.refused(named(("p", "p"), ""), "letters", 0)
        self.refused(named(("p", "p"), ("x", "x", "x", "x")), "letters", 4)


class LookRuleTest(LookCase):
    def test_a_part_that_is_not_there(self):
        for far in (-4, -3, -1, 3, 4, 100, -100):
            for rule in (
                (far, 0, 0, ()),
                (0, far, 0, ()),
                (0, 0, far, ()),
                (0, 0, 0, (far,)),
                (0, 0, 0, (far, 0)),
                (0, 0, 0, (0, far)),
                (far, far, far, (far, far)),
            ):
                self.refused(wide(rule), "rule", 0)
                self.refused(wide(PLAIN_RULES[0], rule), "rule", 1)

    def test_parts_at_the_edge(self):
        self.let_by(wide((2, 2, 2, (2, 2)), (0, 0, 0, (0, 0)), (2, 0, 0, (2, 0)), (0, 2, 2, (0,))))

    def test_places_and_letters_are_bounded_each_by_their_own(self):
        few_letters = (WIDE_PLACES, ("x",), ((2, 0, 2, (0, 0)),))
        self.let_by(few_letters)
        self.refused((WIDE_PLACES, ("x",), ((0, 1, 0, ()),)), "rule", 0)
        self.refused((WIDE_PLACES, ("x",), ((0, 0, 0, (0, 1)),)), "rule", 0)
        self.let_by(((("p", 0),), WIDE_LETTERS, ((0, 2, 0, (2, 2)),)))
        self.refused(((("p", 0),), WIDE_LETTERS, ((1, 0, 0, ()),)), "rule", 0)
        self.refused(((("p", 0),), WIDE_LETTERS, ((0, 0, 1, ()),)), "rule", 0)

    def test_a_truth_is_no_whole_number(self):
        for rule in ((True, 0, 0, ()), (0, False, 0, ()), (0, 0, True, ()), (0, 0, 0, (False,)), (0, 0, 0, (0, True))):
            self.refused(wide(rule), "rule", 0)

    def test_just_as_one_ahead(self):
        for again in PLAIN_RULES[:4]:
            self.refused(wide(*PLAIN_RULES[:4], again), "rule", 4)
        self.refused(wide((0, 0, 0, ()), (0, 0, 0, ())), "rule", 1)
        self.refused(wide((1, 0, 0, ()), (0, 0, 0, ()), (1, 0, 0, ()), (0, 0, 0, ())), "rule", 2)

    def test_unlike_in_one_part_alone(self):
        self.let_by(wide((0, 0, 0, ()), (0, 0, 0, (0,)), (0, 0, 0, (0, 0)), (0, 0, 1, ()), (0, 1, 0, ()), (1, 0, 0, ())))
        self.let_by(wide((0, 0, 0, (0, 1)), (0, 0, 0, (1, 0))))

    def test_the_first_wrong_rule_is_told(self):
        self.refused(wide((0, 0, 0, ()), (0, 9, 0, ()), (9, 0, 0, ()), (0, 0, 0, ())), "rule", 1)

    def test_told_behind_the_names(self):
        self.refused((WIDE_PLACES, ("x", "x"), ((9, 0, 0, ()),)), "twice", 1)
        self.refused((WIDE_PLACES, (), ((0, 0, 0, ()),)), "letters", 0)


class LookPushesTest(LookCase):
    THREE = ((0, 0, 0, (0, 0)), (0, 0, 0, (0, 1)), (2, 2, 1, (2, 1)))

    def test_three_with_two_letters_and_a_fourth(self):
        self.let_by(wide(*self.THREE))
        self.refused(wide(*self.THREE, (2, 0, 0, (1, 1))), "pushes", 3)

    def test_the_number_is_the_rule_own_one(self):
        rules = (PLAIN_RULES[0], self.THREE[0], PLAIN_RULES[1], self.THREE[1], self.THREE[2], PLAIN_RULES[2])
        self.let_by(wide(*rules))
        self.refused(wide(*rules, (1, 0, 0, (1, 1))), "pushes", 6)
        self.refused(wide(*rules, (1, 0, 0, (1, 1)), (1, 1, 0, (1, 1))), "pushes", 6)

    def test_one_letter_or_none_never_counts(self):
        self.let_by(wide(*self.THREE, (0, 1, 0, ()), (0, 1, 0, (1,)), (2, 1, 0, (2,))))

    def test_of_either_hand(self):
        self.refused(wide((1, 0, 0, (0, 0)), (1, 1, 0, (0, 0)), (1, 2, 0, (0, 0)), (0, 0, 0, (0, 0))), "pushes", 3)


class LookManyTest(LookCase):
    def test_a_second_and_a_third_of_the_other_hand(self):
        self.let_by(wide((1, 0, 0, ()), (1, 0, 1, ())))
        self.refused(wide((1, 0, 0, ()), (1, 0, 1, ()), (1, 0, 2, ())), "many", 2)

    def test_a_third_of_the_first_hand(self):
        for place in (0, 2):
            self.let_by(wide(*[(place, 0, q, w) for q in range(3) for w in ((), (0,))]))

    def test_not_right_behind_one_another(self):
        rules = ((1, 2, 0, ()), (0, 2, 0, ()), (1, 2, 1, ()), (1, 0, 0, ()))
        self.refused(wide(*rules, (1, 2, 2, (1,))), "many", 4)

    def test_at_another_letter_or_another_place(self):
        self.let_by(wide(*[(1, x, q, ()) for x in range(3) for q in range(2)]))
        both_other = ((("p", 1), ("q", 1)), ("x",), tuple((p, 0, q, ()) for p in range(2) for q in range(2)))
        self.let_by(both_other)
        self.refused((both_other[0], ("x",), both_other[2] + ((0, 0, 0, (0,)),)), "many", 4)

    def test_the_place_gone_to_never_counts(self):
        self.let_by(wide((0, 0, 1, ()), (0, 1, 1, ()), (0, 2, 1, ()), (0, 0, 1, (0,)), (1, 0, 1, ())))


class LookOrderTest(LookCase):
    PUSHES = ((0, 0, 0, (0, 0)), (0, 0, 0, (0, 1)), (0, 0, 0, (0, 2)))
    ANSWERS = ((1, 0, 0, ()), (1, 0, 1, ()))

    def test_rule_ahead_of_pushes(self):
        self.refused(wide(*self.PUSHES, (0, 0, 0, (0, 9))), "rule", 3)
        self.refused(wide(*self.PUSHES, self.PUSHES[0]), "rule", 3)

    def test_rule_ahead_of_many(self):
        self.refused(wide(*self.ANSWERS, (1, 0, 9, ())), "rule", 2)
        self.refused(wide(*self.ANSWERS, self.ANSWERS[1]), "rule", 2)

    def test_pushes_ahead_of_many(self):
        self.refused(wide(*self.PUSHES, *self.ANSWERS, (1, 0, 0, (0, 0))), "pushes", 5)

    def test_rule_by_rule(self):
        self.refused(wide(*self.PUSHES, *self.ANSWERS, (1, 0, 2, ()), (0, 0, 0, (1, 1)), (9, 0, 0, ())), "many", 5)
        self.refused(wide(*self.PUSHES, *self.ANSWERS, (0, 0, 0, (1, 1)), (1, 0, 2, ()), (9, 0, 0, ())), "pushes", 5)
        self.refused(wide(*self.PUSHES, *self.ANSWERS, (9, 0, 0, ()), (1, 0, 2, ()), (0, 0, 0, (1, 1))), "rule", 5)

    def test_too_many_rules_at_last(self):
        self.refused(wide(*PLAIN_RULES[:8], (9, 0, 0, ())), "rule", 8)
        self.refused(wide(*PLAIN_RULES[:8], PLAIN_RULES[7]), "rule", 8)
        self.refused(wide(*PLAIN_RULES[:6], *self.PUSHES, (2, 0, 0, (0, 0)), (2, 0, 0, ())), "pushes", 9)
        self.refused(wide(*PLAIN_RULES[:6], *self.ANSWERS, (1, 0, 2, ())), "many", 8)
        self.refused(((("p", 0), ("p", 0)), WIDE_LETTERS, PLAIN_RULES), "twice", 1)

    def test_all_due_at_once(self):
        places = tuple(("p", 1) for number in range(4))
        letters = ("x",) * 4
        rules = ((9, 9, 9, (9, 9)),) * 9
        self.refused((places, letters, rules), "places", 4)
        self.refused((places[:3], letters, rules), "letters", 4)
        self.refused((places[:3], letters[:3], rules), "twice", 1)
        self.refused((places[:1], letters[:3], rules), "twice", 1)
        self.refused((places[:1], letters[:1], rules), "rule", 0)


class RulesAtTest(unittest.TestCase):
    def test_rising_numbers(self):
        self.assertEqual(rules_at(GAME, 0, 0), [0, 3])
        self.assertEqual(rules_at(GAME, 1, 0), [1, 2])

    def test_where_no_rule_is(self):
        self.assertEqual(rules_at(GAME, 0, 1), [])
        self.assertEqual(rules_at(GAME, 1, 1), [])
        self.assertEqual(rules_at(wide(), 0, 0), [])

    def test_place_and_letter_are_not_exchanged(self):
        game = wide((0, 1, 0, ()), (1, 0, 0, ()), (2, 1, 0, ()), (0, 1, 2, ()))
        self.assertEqual(rules_at(game, 0, 1), [0, 3])
        self.assertEqual(rules_at(game, 1, 0), [1])
        self.assertEqual(rules_at(game, 2, 1), [2])
        self.assertEqual(rules_at(game, 1, 2), [])

    def test_whatever_it_leads_to(self):
        game = wide((1, 1, 0, (0, 0)), (0, 0, 1, (1, 1)), (0, 0, 1, (1,)))
        self.assertEqual(rules_at(game, 1, 1), [0])
        self.assertEqual(rules_at(game, 0, 0), [1, 2])

    def test_every_rule_is_at_just_one_place_and_letter(self):
        game = wide(*PLAIN_RULES)
        told = [number for p in range(3) for x in range(3) for number in rules_at(game, p, x)]
        self.assertEqual(sorted(told), list(range(len(PLAIN_RULES))))

    def test_a_list_of_whole_numbers(self):
        told = rules_at(GAME, 0, 0)
        self.assertIs(told.__class__, list)
        self.assertEqual([number.__class__ for number in told], [int, int])

    def test_a_told_list_is_the_askers_own(self):
        told = rules_at(GAME, 0, 0)
        told.append(77)
        told[0] = 5
        again = rules_at(GAME, 0, 0)
        self.assertEqual(again, [0, 3])
        again.clear()
        nowhere = rules_at(GAME, 1, 1)
        nowhere.append(1)
        self.assertEqual(rules_at(GAME, 1, 1), [])
        self.assertEqual(rules_at(GAME, 0, 0), [0, 3])


class HandedInTest(unittest.TestCase):
    def test_what_is_handed_in_stays_as_it_was(self):
        game = copy.deepcopy(GAME)
        look(game)
        rules_at(game, 0, 0)
        self.assertEqual(game, GAME)

    def test_asked_again_whatever_was_asked_between(self):
        bad = wide((0, 0, 0, ()), (0, 0, 0, ()))
        for turn in range(3):
            self.assertIs(look(GAME), True)
            with self.assertRaises(NoGame) as taken:
                look(bad)
            self.assertEqual((taken.exception.word, taken.exception.at), ("rule", 1))
            self.assertEqual(rules_at(GAME, 1, 0), [1, 2])


if __name__ == "__main__":
    unittest.main()
