import copy
import unittest

from changes import piles
from pileduel.play import behind, behind_all, rules_here

GAME = (
    (("hall", 0), ("yard", 1)),
    ("a", "b"),
    ((0, 0, 1, (0, 1)), (1, 0, 0, ()), (1, 0, 1, (1,)), (0, 0, 0, ()), (1, 1, 0, (0, 0))),
)


def plainly_behind(game, place, pile, rules):
    for number in rules:
        if not 0 <= number < len(game[2]) or not pile:
            return None
        p, x, q, w = game[2][number]
        if (p, x) != (place, pile[0]):
            return None
        place, pile = q, (*w, *pile[1:])
    return (place, pile)


class RulesHereTest(unittest.TestCase):
    def test_by_place_and_top(self):
        self.assertEqual(rules_here(GAME, 0, (0,)), [0, 3])
        self.assertEqual(rules_here(GAME, 1, (0, 1, 1)), [1, 2])
        self.assertEqual(rules_here(GAME, 1, (1, 0)), [4])

    def test_what_lies_beneath_never_counts(self):
        for rest in piles(2, 4):
            self.assertEqual(rules_here(GAME, 0, (0,) + rest), [0, 3])
            self.assertEqual(rules_here(GAME, 0, (1,) + rest), [])

    def test_the_play_is_over_without_letters(self):
        for place in (0, 1):
            self.assertEqual(rules_here(GAME, place, ()), [])

    def test_the_play_is_over_without_a_rule(self):
        self.assertEqual(rules_here(GAME, 0, (1, 0)), [])
        self.assertEqual(rules_here(GAME[:2] + ((),), 0, (0,)), [])

    def test_a_told_list_is_the_askers_own(self):
        for pile, told in (((0,), [0, 3]), ((), []), ((1,), [])):
            first = rules_here(GAME, 0, pile)
            self.assertIs(first.__class__, list)
            first.append(9)
            first.insert(0, 7)
            self.assertEqual(rules_here(GAME, 0, pile), told)

    def test_whole_numbers(self):
        self.assertEqual(repr(rules_here(GAME, 1, (0, 0))), "[1, 2]")


class BehindTest(unittest.TestCase):
    def test_none_one_and_two_letters_put(self):
        self.assertEqual(behind(GAME, 1, (0, 1), 1), (0, (1,)))
        self.assertEqual(behind(GAME, 1, (0, 1), 2), (1, (1, 1)))
        self.assertEqual(behind(GAME, 0, (0, 1), 0), (1, (0, 1, 1)))
        self.assertEqual(behind(GAME, 1, (1, 1), 4), (0, (0, 0, 1)))

    def test_the_top_is_put_first(self):
        self.assertEqual(behind(GAME, 0, (0,), 0), (1, (0, 1)))

    def test_the_last_letter(self):
        self.assertEqual(behind(GAME, 0, (0,), 3), (0, ()))
        self.assertEqual(behind(GAME, 1, (0,), 1), (0, ()))

    def test_the_rest_stays(self):
        for rest in piles(2, 4):
            self.assertEqual(behind(GAME, 0, (0,) + rest, 3), (0, rest))
            self.assertEqual(behind(GAME, 0, (0,) + rest, 0), (1, (0, 1) + rest))

    def test_tuples_of_whole_numbers(self):
        self.assertEqual(repr(behind(GAME, 0, (0, 1), 0)), "(1, (0, 1, 1))")
        self.assertEqual(repr(behind(GAME, 1, (0,), 1)), "(0, ())")


class BehindAllTest(unittest.TestCase):
    def test_no_rules(self):
        self.assertEqual(behind_all(GAME, 1, (0, 1), ()), (1, (0, 1)))
        self.assertEqual(behind_all(GAME, 0, (), ()), (0, ()))

    def test_one_after_the_other(self):
        self.assertEqual(behind_all(GAME, 0, (0,), (0,)), (1, (0, 1)))
        self.assertEqual(behind_all(GAME, 0, (0,), (0, 2)), (1, (1, 1)))
        self.assertEqual(behind_all(GAME, 0, (0,), (0, 2, 4)), (0, (0, 0, 1)))
        self.assertEqual(behind_all(GAME, 0, (0,), (0, 2, 4, 3, 3)), (0, (1,)))

    def test_one_that_may_not_be_gone_by(self):
        self.assertIsNone(behind_all(GAME, 0, (0,), (1,)))
        self.assertIsNone(behind_all(GAME, 0, (0,), (0, 0)))
        self.assertIsNone(behind_all(GAME, 0, (0,), (0, 2, 1)))
        self.assertIsNone(behind_all(GAME, 0, (0,), (4, 0)))
        self.assertIsNone(behind_all(GAME, 0, (0, 1), (3, 0)))

    def test_behind_the_last_letter(self):
        self.assertIsNone(behind_all(GAME, 0, (0,), (3, 3)))
        self.assertIsNone(behind_all(GAME, 0, (), (0,)))
        self.assertEqual(behind_all(GAME, 0, (0, 0), (3, 3)), (0, ()))

    def test_a_number_that_is_no_rules(self):
        for number in (-1, -2, -5, -100, 5, 6, 100):
            self.assertIsNone(behind_all(GAME, 0, (0,), (number,)), number)
            self.assertIsNone(behind_all(GAME, 0, (0,), (0, number)), number)
            self.assertIsNone(behind_all(GAME, 0, (0,), (number, 0)), number)
            self.assertIsNone(behind_all(GAME, 0, (), (number,)), number)

    def test_all_short_rows_of_rules(self):
        rows = [tuple(number - 1 for number in row) for row in piles(7, 3)]
        for place in (0, 1):
            for pile in piles(2, 2):
                for row in rows:
                    told = behind_all(GAME, place, pile, row)
                    self.assertEqual(repr(told), repr(plainly_behind(GAME, place, pile, row)), (place, pile, row))

    def test_a_long_row(self):
        self.assertEqual(behind_all(GAME, 0, (0,) * 3000, (3,) * 2999), (0, (0,)))
        grow = (GAME[0], GAME[1], ((0, 0, 0, (0, 1)),))
        self.assertEqual(behind_all(grow, 0, (0,), (0,) * 2000), (0, (0,) + (1,) * 2000))


class HandedInTest(unittest.TestCase):
    def test_what_is_handed_in_stays_as_it_was(self):
        game = copy.deepcopy(GAME)
        pile = (0, 1)
        rules = (0, 2, 4)
        rules_here(game, 0, pile)
        behind(game, 0, pile, 0)
        behind_all(game, 0, pile, rules)
        self.assertEqual(repr((game, pile, rules)), repr((GAME, (0, 1), (0, 2, 4))))

    def test_asked_again_whatever_was_asked_between(self):
        for turn in range(3):
            self.assertEqual(rules_here(GAME, 0, (0, 1)), [0, 3])
            self.assertEqual(behind(GAME, 0, (0, 1), 0), (1, (0, 1, 1)))
            self.assertIsNone(behind_all(GAME, 0, (0,), (1,)))
            self.assertEqual(behind_all(GAME, 0, (0, 1), (0, 1)), (0, (1, 1)))


if __name__ == "__main__":
    unittest.main()
