import copy
import unittest

from changes import piles
from pileduel.joined import both, either
from pileduel.sayings import is_in, look_saying
from plain import plainly_reads, samples, some_saying

# Places 0 and 1, letters 0 and 1; own stands from 2 on.
GAME = ((("p", 0), ("q", 1)), ("x", "y"), ())
ONE = (2, ((0, 0, (2,)), (0, 1, (2, 3)), (2, 0, (3,)), (3, 1, ())), (0, 2))
OTHER = (2, ((0, 0, ()), (0, 0, (3,)), (1, 0, (2,)), (2, 1, (2, 3)), (3, 0, (2,))), (0, 1, 3))


class JoinedCase(unittest.TestCase):
    def told(self, function, one, other, saying):
        # By their writing: a list, or a truth in the place of a number, would show.
        self.assertEqual(repr(function(GAME, one, other)), repr(saying), (one, other))

    def so_where(self, game, one, other):
        joined_either = either(game, one, other)
        joined_both = both(game, one, other)
        for pile in piles(len(game[1]), 4):
            for place in range(len(game[0])):
                first = is_in(one, place, pile)
                second = is_in(other, place, pile)
                self.assertIs(is_in(joined_either, place, pile), first or second, (game, one, other, place, pile))
                self.assertIs(is_in(joined_both, place, pile), first and second, (game, one, other, place, pile))


class EitherTest(JoinedCase):
    def test_without_own_stands(self):
        one = (0, ((0, 1, ()), (1, 0, ())), (1,))
        other = (0, ((0, 0, ()), (1, 1, ())), (0,))
        self.told(either, one, other, (0, ((0, 0, ()), (0, 1, ()), (1, 0, ()), (1, 1, ())), (0, 1)))

    def test_with_two_own_stands_each(self):
        self.told(either, ONE, OTHER, (4, (
            (0, 0, ()), (0, 0, (2,)), (0, 0, (5,)), (0, 1, (2, 3)), (1, 0, (4,)),
            (2, 0, (3,)), (3, 1, ()), (4, 1, (4, 5)), (5, 0, (4,)),
        ), (0, 1, 2, 5)))

    def test_the_other_way_round(self):
        self.told(either, OTHER, ONE, (4, (
            (0, 0, ()), (0, 0, (3,)), (0, 0, (4,)), (0, 1, (4, 5)), (1, 0, (2,)),
            (2, 1, (2, 3)), (3, 0, (2,)), (4, 0, (5,)), (5, 1, ()),
        ), (0, 1, 3, 4)))

    def test_own_stands_of_one_of_them_alone(self):
        bare = (0, ((0, 0, ()), (1, 1, ())), (1,))
        told = (2, ((0, 0, ()), (0, 0, (2,)), (0, 1, (2, 3)), (1, 1, ()), (2, 0, (3,)), (3, 1, ())), (0, 1, 2))
        self.told(either, ONE, bare, told)
        self.told(either, bare, ONE, told)

    def test_the_same_saying_twice(self):
        self.told(either, ONE, ONE, (4, (
            (0, 0, (2,)), (0, 0, (4,)), (0, 1, (2, 3)), (0, 1, (4, 5)), (2, 0, (3,)), (3, 1, ()), (4, 0, (5,)), (5, 1, ()),
        ), (0, 2, 4)))

    def test_an_arrow_of_both_comes_once(self):
        one = (1, ((0, 0, ()), (0, 1, (2,)), (2, 0, ())), (1, 2))
        told = (2, ((0, 0, ()), (0, 1, (2,)), (0, 1, (3,)), (2, 0, ()), (3, 0, ())), (1, 2, 3))
        self.told(either, one, one, told)

    def test_without_anything(self):
        self.told(either, (0, (), ()), (0, (), ()), (0, (), ()))
        self.told(either, (1, (), ()), (2, (), ()), (3, (), ()))
        self.told(either, ONE, (0, (), ()), ONE)
        self.told(either, (0, (), ()), ONE, ONE)


class BothTest(JoinedCase):
    def test_without_own_stands(self):
        one = (0, ((0, 0, ()), (0, 1, ()), (1, 0, ())), (0,))
        other = (0, ((0, 0, ()), (1, 0, ()), (1, 1, ())), (0, 1))
        self.told(both, one, other, (0, ((0, 0, ()), (1, 0, ())), (0,)))

    def test_with_two_own_stands_each(self):
        self.told(both, ONE, OTHER, (4, (
            (0, 0, (2,)), (0, 0, (2, 5)), (2, 0, (3,)), (3, 1, ()), (4, 1, (4, 5)), (5, 0, (4,)),
        ), (0, 2, 5)))

    def test_the_other_way_round(self):
        self.told(both, OTHER, ONE, (4, (
            (0, 0, (3, 4)), (0, 0, (4,)), (2, 1, (2, 3)), (3, 0, (2,)), (4, 0, (5,)), (5, 1, ()),
        ), (0, 3, 4)))

    def test_targets_in_none_in_one_and_in_both(self):
        bare = (1, ((0, 0, ()),), ())
        with_targets = (1, ((0, 0, (2,)),), ())
        self.told(both, bare, bare, (2, ((0, 0, ()),), ()))
        self.told(both, with_targets, bare, (2, ((0, 0, (2,)),), ()))
        self.told(both, bare, with_targets, (2, ((0, 0, (3,)),), ()))
        self.told(both, with_targets, with_targets, (2, ((0, 0, (2, 3)),), ()))

    def test_each_arrow_with_each(self):
        one = (2, ((0, 0, (2,)), (0, 0, (3,))), ())
        told = (4, ((0, 0, (2, 4)), (0, 0, (2, 5)), (0, 0, (3, 4)), (0, 0, (3, 5))), ())
        self.told(both, one, one, told)

    def test_no_arrow_of_a_place_in_one_of_them(self):
        self.told(both, (0, ((0, 0, ()),), ()), (0, (), ()), (0, (), ()))
        self.told(both, (0, (), ()), (0, ((0, 0, ()),), ()), (0, (), ()))
        # The same place with another letter, the same letter with another place.
        self.told(both, (0, ((0, 0, ()),), ()), (0, ((0, 1, ()), (1, 0, ())), ()), (0, (), ()))

    def test_own_stands_of_one_number_are_not_the_same(self):
        one = (1, ((2, 0, ()),), ())
        self.told(both, one, one, (2, ((2, 0, ()), (3, 0, ())), ()))
        self.told(both, one, (1, ((2, 1, (2,)),), ()), (2, ((2, 0, ()), (3, 1, (3,))), ()))

    def test_ends(self):
        for ends, others, told in (
            ((), (), ()), ((0,), (), ()), ((), (0,), ()), ((0,), (0,), (0,)), ((0,), (1,), ()), ((0, 1), (1,), (1,)),
            ((2,), (), (2,)), ((), (2,), (3,)), ((2,), (2,), (2, 3)), ((0, 2), (1, 2), (2, 3)), ((1, 2), (1,), (1, 2)),
        ):
            self.told(both, (1, (), ends), (1, (), others), (2, (), told))

    def test_the_same_saying_twice(self):
        self.told(both, ONE, ONE, (4, (
            (0, 0, (2, 4)), (0, 1, (2, 3, 4, 5)), (2, 0, (3,)), (3, 1, ()), (4, 0, (5,)), (5, 1, ()),
        ), (0, 2, 4)))


class SoTest(JoinedCase):
    def test_so_just_where_one_is_and_where_both_are(self):
        for one in (ONE, OTHER, (0, (), ()), (0, ((0, 0, ()), (1, 1, ())), (0,)), (1, ((1, 0, (2,)),), (1, 2))):
            for other in (ONE, OTHER, (0, (), ()), (1, ((0, 0, (2,)), (1, 0, ()), (2, 0, (2,))), (2,))):
                self.so_where(GAME, one, other)

    def test_so_of_many_sayings(self):
        for number, (game, one) in enumerate(samples(60)):
            self.so_where(game, one, some_saying(1000 + number, game))

    def test_a_joined_one_joined_with_a_third(self):
        third = (2, ((0, 0, (2,)), (0, 1, ()), (1, 0, (3,)), (2, 1, (3,)), (3, 0, (3,)), (3, 1, ())), (1, 3))
        for first in (either, both):
            for one in (first(GAME, ONE, OTHER), first(GAME, ONE, ONE)):
                self.so_where(GAME, one, third)
                self.so_where(GAME, third, one)
                self.so_where(GAME, one, one)

    def test_the_numbers_of_a_third(self):
        third = (1, ((0, 0, (2,)), (2, 1, (2,))), (2,))
        self.told(either, either(GAME, ONE, OTHER), third, (5, (
            (0, 0, ()), (0, 0, (2,)), (0, 0, (5,)), (0, 0, (6,)), (0, 1, (2, 3)), (1, 0, (4,)),
            (2, 0, (3,)), (3, 1, ()), (4, 1, (4, 5)), (5, 0, (4,)), (6, 1, (6,)),
        ), (0, 1, 2, 5, 6)))
        self.told(both, third, both(GAME, ONE, OTHER), (5, (
            (0, 0, (2, 3)), (0, 0, (2, 3, 6)), (2, 1, (2,)), (3, 0, (4,)), (4, 1, ()), (5, 1, (5, 6)), (6, 0, (5,)),
        ), (2, 3, 6)))

    def test_joined_far_beyond_the_bounds(self):
        one = ONE
        for turn in range(5):
            one = either(GAME, one, OTHER)
        self.assertEqual(one[0], 12)
        self.assertGreater(len(one[1]), 20)
        for pile in piles(2, 3):
            for place in (0, 1):
                told = plainly_reads(ONE[1], ONE[2], place, pile) or plainly_reads(OTHER[1], OTHER[2], place, pile)
                self.assertIs(is_in(one, place, pile), told)

    def test_ends_rise(self):
        for function in (either, both):
            self.told(function, (7, (), (1, 8)), (0, (), (1,)), (7, (), (1, 8)))
            self.told(function, (0, (), (1,)), (7, (), (1, 8)), (7, (), (1, 8)))

    def test_small_ones_joined_are_let_by(self):
        one = (1, ((0, 0, (2,)), (2, 1, ())), (0, 2))
        other = (1, ((0, 0, ()), (1, 0, (2,)), (2, 0, (2,))), (1, 2))
        self.assertIs(look_saying(GAME, either(GAME, one, other)), True)
        self.assertIs(look_saying(GAME, both(GAME, one, other)), True)


class HandedInTest(unittest.TestCase):
    def test_what_is_handed_in_stays_as_it_was(self):
        handed = copy.deepcopy((GAME, ONE, OTHER))
        either(*handed)
        both(*handed)
        self.assertEqual(repr(handed), repr((GAME, ONE, OTHER)))

    def test_asked_again_whatever_was_asked_between(self):
        first = (either(GAME, ONE, OTHER), both(GAME, ONE, OTHER))
        either(GAME, OTHER, OTHER)
        both(GAME, OTHER, ONE)
        self.assertEqual((either(GAME, ONE, OTHER), both(GAME, ONE, OTHER)), first)


if __name__ == "__main__":
    unittest.main()
