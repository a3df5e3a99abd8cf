import copy
import unittest

from changes import piles
from pileduel.errors import DuelError, NoSaying
from pileduel.sayings import is_in, look_saying, reads
from plain import plainly_reads

# Places 0 and 1, own stands 2 and 3, letters 0 to 2.
GAME = ((("p", 0), ("q", 1)), ("x", "y", "z"), ())
ARROWS = ((0, 0, (2,)), (0, 1, ()), (1, 0, (2, 3)), (2, 1, (2,)), (2, 2, (3,)), (3, 0, (2,)), (3, 2, (3,)))
SAYING = (2, ARROWS, (1, 2, 3))
# A machine's: with costs, places among the targets, in no order.
MACHINE = ((3, 0, (0, 2), 4), (0, 0, (1,), 1), (1, 1, (0, 1, 3), 2), (0, 1, (), 0), (2, 0, (2,), 0), (0, 0, (2, 3), 9),
           (1, 0, (0,), 1), (3, 1, (3,), 7), (1, 2, (1,), 3), (2, 2, (0,), 3))
MACHINE_ENDS = (0, 2, 3)


class LookSayingCase(unittest.TestCase):
    def refused(self, saying, at, game=GAME):
        with self.assertRaises(NoSaying) as taken:
            look_saying(game, saying)
        self.assertEqual(taken.exception.at, at, saying)
        self.assertIs(taken.exception.at.__class__, int)
        self.assertIsInstance(taken.exception, DuelError)

    def let_by(self, saying, game=GAME):
        self.assertIs(look_saying(game, saying), True, saying)


class LookSayingTest(LookSayingCase):
    def test_an_ordinary_saying(self):
        self.let_by(SAYING)

    def test_without_anything(self):
        self.let_by((0, (), ()))
        self.let_by((2, (), ()))

    def test_how_many_own_stands(self):
        for many in (0, 1, 2):
            self.let_by((many, (), ()))
        for many in (-1, -2, 3, 4, 100, -100):
            self.refused((many, (), ()), -1)

    def test_own_stands_are_told_ahead_of_all(self):
        self.refused((3, ((9, 9, (9, 9)),) * 9, (9, 9)), -1)
        self.refused((-1, ((0, 0, ()),), ()), -1)

    def test_a_truth_is_no_whole_number(self):
        self.refused((True, (), ()), -1)
        self.refused((1, ((False, 0, ()),), ()), 0)
        self.refused((1, ((0, True, ()),), ()), 0)
        self.refused((1, (), (False,)), 0)

    def test_a_stand_that_is_not_there(self):
        for many in (0, 1, 2):
            for stand in range(2 + many):
                self.let_by((many, ((stand, 0, ()),), ()))
            for stand in (-1, -2, 2 + many, 3 + many, 100):
                self.refused((many, ((stand, 0, ()),), ()), 0)

    def test_a_letter_that_is_not_there(self):
        for letter in (0, 1, 2):
            self.let_by((0, ((0, letter, ()),), ()))
        for letter in (-1, -3, 3, 4, 100):
            self.refused((0, ((0, letter, ()),), ()), 0)
            self.refused((0, ((0, 0, ()), (1, letter, ())), ()), 1)

    def test_stands_and_letters_are_bounded_each_by_their_own(self):
        few_letters = (GAME[0], ("x",), ())
        self.let_by((2, ((3, 0, ()),), ()), few_letters)
        self.refused((2, ((0, 1, ()),), ()), 0, few_letters)
        few_places = ((("p", 0),), GAME[1], ())
        self.let_by((0, ((0, 2, ()),), ()), few_places)
        self.refused((0, ((1, 0, ()),), ()), 0, few_places)
        self.let_by((1, ((1, 0, (1,)),), (1,)), few_places)

    def test_targets_that_are_no_own_stands(self):
        for targets in ((), (2,), (3,), (2, 3)):
            self.let_by((2, ((0, 0, targets),), ()))
        for targets in ((0,), (1,), (-1,), (4,), (0, 2), (1, 3), (1, 2, 3), (2, 4), (2, 3, 4), (0, 1), (-1, 2)):
            self.refused((2, ((0, 0, targets),), ()), 0)
        self.refused((0, ((0, 0, (2,)),), ()), 0)
        self.refused((1, ((0, 0, (3,)),), ()), 0)

    def test_targets_that_do_not_rise(self):
        for targets in ((3, 2), (2, 2), (3, 3), (2, 3, 3), (2, 3, 2), (2, 2, 3)):
            self.refused((2, ((0, 0, targets),), ()), 0)
            self.refused((2, ((0, 0, ()), (0, 1, targets)), ()), 1)

    def test_an_arrow_that_is_not_above_the_one_ahead(self):
        for low, high in (
            ((0, 0, ()), (0, 0, (2,))),
            ((0, 0, (2,)), (0, 0, (2, 3))),
            ((0, 0, (2, 3)), (0, 0, (3,))),
            ((0, 2, (3,)), (1, 0, ())),
            ((0, 0, (3,)), (0, 1, ())),
        ):
            self.let_by((2, (low, high), ()))
            self.refused((2, (high, low), ()), 1)
            self.refused((2, (low, low), ()), 1)
            self.refused((2, (low, high, high), ()), 2)
            self.refused((2, (low, high, low), ()), 2)

    def test_the_first_arrow_that_is_refused(self):
        self.refused((2, ((0, 0, ()), (0, 0, ()), (9, 0, ())), ()), 1)
        self.refused((2, ((0, 0, ()), (9, 0, ()), (0, 0, ())), ()), 1)

    def test_eight_arrows_and_nine(self):
        nine = tuple((stand, letter, ()) for stand in range(3) for letter in range(3))
        self.let_by((2, nine[:8], ()))
        self.refused((2, nine, ()), 9)
        self.refused((2, nine + ((3, 0, ()),), ()), 10)
        self.refused((2, nine[:8] + ((3, 9, ()),), ()), 8)
        self.refused((2, nine[:8] + (nine[7],), ()), 8)

    def test_ends(self):
        for ends in ((), (0,), (3,), (0, 1, 2, 3), (1, 3)):
            self.let_by((2, (), ends))
            self.let_by((2, ARROWS, ends))
        for ends in ((4,), (-1,), (0, 4), (1, 0), (0, 0), (2, 1), (3, 3), (0, 2, 1), (-1, 0), (0, 1, 1)):
            self.refused((2, (), ends), 0)
            self.refused((2, ARROWS, ends), len(ARROWS))
        self.refused((0, (), (2,)), 0)
        self.let_by((1, (), (2,)))
        self.refused((1, (), (3,)), 0)

    def test_arrows_are_told_ahead_of_ends(self):
        self.refused((2, ((0, 0, ()), (0, 0, ())), (9,)), 1)


class ReadsTest(unittest.TestCase):
    def test_the_pile_without_letters(self):
        for stand in range(4):
            self.assertIs(reads(ARROWS, (1, 3), stand, ()), stand in (1, 3))
            self.assertIs(reads(ARROWS, (), stand, ()), False)
            self.assertIs(reads((), (stand,), stand, ()), True)

    def test_an_arrow_without_targets_reads_whatever_the_rest_is(self):
        for rest in piles(3, 4):
            self.assertIs(reads(((0, 1, ()),), (), 0, (1,) + rest), True)
            self.assertIs(reads(((0, 1, ()),), (), 0, (0,) + rest), False)
            self.assertIs(reads(((0, 1, ()),), (), 1, (1,) + rest), False)

    def test_all_targets_must_read_the_rest(self):
        arrows = ((0, 0, (2, 3)), (2, 1, ()), (3, 2, ()))
        self.assertIs(reads(arrows, (), 0, (0, 1)), False)
        self.assertIs(reads(arrows, (), 0, (0, 2)), False)
        self.assertIs(reads(arrows + ((3, 1, ()),), (), 0, (0, 1)), True)
        self.assertIs(reads(arrows, (2,), 0, (0,)), False)
        self.assertIs(reads(arrows, (2, 3), 0, (0,)), True)

    def test_one_arrow_of_several_is_enough(self):
        arrows = ((0, 0, (2,)), (0, 0, (3,)))
        for ends, told in (((), False), ((2,), True), ((3,), True), ((0, 1), False)):
            self.assertIs(reads(arrows, ends, 0, (0,)), told)

    def test_ends_count_behind_the_last_letter_alone(self):
        self.assertIs(reads((), (0,), 0, (0,)), False)
        self.assertIs(reads(((0, 0, (0,)),), (0,), 0, (0, 0, 0)), True)
        self.assertIs(reads(((0, 0, (0,)),), (0,), 0, (0, 1, 0)), False)

    def test_targets_that_are_places_or_the_stand_itself(self):
        arrows = ((0, 0, (1,), 1), (1, 0, (0,), 1))
        for height in range(7):
            self.assertIs(reads(arrows, (0,), 0, (0,) * height), height % 2 == 0)
            self.assertIs(reads(arrows, (0,), 1, (0,) * height), height % 2 == 1)

    def test_a_sayings_arrows_by_all_short_piles(self):
        for ends in ((), (0,), (2,), (1, 3), (1, 2, 3), (2, 3)):
            for pile in piles(3, 4):
                for stand in range(4):
                    told = plainly_reads(ARROWS, ends, stand, pile)
                    self.assertIs(reads(ARROWS, ends, stand, pile), told, (ends, stand, pile))

    def test_a_machines_arrows_by_all_short_piles(self):
        for ends in ((), (0,), MACHINE_ENDS, (1, 2)):
            for pile in piles(3, 4):
                for stand in range(4):
                    told = plainly_reads(MACHINE, ends, stand, pile)
                    self.assertIs(reads(MACHINE, ends, stand, pile), told, (ends, stand, pile))

    def test_costs_and_order_never_count(self):
        bare = tuple(arrow[:3] for arrow in MACHINE)
        for pile in piles(3, 4):
            for stand in range(4):
                told = reads(MACHINE, MACHINE_ENDS, stand, pile)
                self.assertIs(reads(bare, MACHINE_ENDS, stand, pile), told)
                self.assertIs(reads(tuple(reversed(MACHINE)), MACHINE_ENDS, stand, pile), told)

    def test_a_high_pile_with_many_ways(self):
        arrows = tuple((stand, 0, targets) for stand in (0, 1, 2) for targets in ((0, 1), (0, 2), (1, 2)))
        self.assertIs(reads(arrows, (0, 1), 0, (0,) * 3000), True)
        self.assertIs(reads(arrows, (0,), 0, (0,) * 3000), False)

    def test_a_stand_without_arrows(self):
        self.assertIs(reads(ARROWS, (0,), 7, (0,)), False)
        self.assertIs(reads((), (), 0, (0, 1)), False)


class IsInTest(unittest.TestCase):
    def test_a_place_with_a_pile(self):
        self.assertIs(is_in(SAYING, 0, (0,)), True)
        self.assertIs(is_in(SAYING, 0, (1, 0, 0)), True)
        self.assertIs(is_in(SAYING, 0, ()), False)
        self.assertIs(is_in(SAYING, 1, ()), True)
        self.assertIs(is_in(SAYING, 1, (0,)), True)
        self.assertIs(is_in(SAYING, 1, (0, 1)), False)
        self.assertIs(is_in(SAYING, 1, (0, 2)), True)
        self.assertIs(is_in(SAYING, 1, (2,)), False)

    def test_all_short_piles(self):
        for pile in piles(3, 4):
            for place in (0, 1):
                self.assertIs(is_in(SAYING, place, pile), plainly_reads(ARROWS, (1, 2, 3), place, pile))

    def test_nothing_is_in_a_saying_without_anything(self):
        for pile in piles(3, 3):
            self.assertIs(is_in((2, (), ()), 0, pile), False)


class HandedInTest(unittest.TestCase):
    def test_what_is_handed_in_stays_as_it_was(self):
        saying = copy.deepcopy(SAYING)
        machine = list(MACHINE)
        ends = list(MACHINE_ENDS)
        look_saying(GAME, saying)
        is_in(saying, 0, (0, 1, 2))
        reads(machine, ends, 0, (0, 1, 2))
        self.assertEqual(repr(saying), repr(SAYING))
        self.assertEqual((machine, ends), (list(MACHINE), list(MACHINE_ENDS)))

    def test_asked_again_whatever_was_asked_between(self):
        for turn in range(3):
            self.assertIs(is_in(SAYING, 1, (0, 2)), True)
            self.assertIs(reads(MACHINE, MACHINE_ENDS, 1, ()), False)
            self.assertIs(is_in(SAYING, 1, (0, 1)), False)
            self.assertIs(look_saying(GAME, SAYING), True)
            with self.assertRaises(NoSaying):
                look_saying(GAME, (3, (), ()))


if __name__ == "__main__":
    unittest.main()
