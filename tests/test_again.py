import copy
import itertools
import unittest

from changes import piles
from examples import GAME, MACHINE, RICH, SAYING, WIDE_GAME, WIDE_SAYING
from pileduel.again import as_saying
from pileduel.closing import machine
from pileduel.joined import either
from pileduel.papermaker import paper_for
from pileduel.runs import least_cost
from pileduel.sayings import is_in, reads
from pileduel.ways import way_from
from plain import plainly_reads, samples, some_saying

ONE = ((("p", 0),), ("x", "y"), ())
TWO = ((("p", 0), ("q", 1)), ("x", "y"), ())
AGAIN = (3, (
    (0, 0, (2,)), (0, 1, (2,)), (0, 1, (4,)), (0, 2, ()), (1, 0, (2,)), (1, 1, (2,)),
    (2, 0, (2,)), (2, 1, (2,)), (2, 1, (4,)), (2, 2, ()), (3, 0, (2,)), (3, 1, (2,)), (4, 0, ()), (4, 1, (4,)),
), (0, 2))


class AsSayingTest(unittest.TestCase):
    def told(self, game, saying, arrows, again):
        self.assertEqual(repr(as_saying(game, saying, arrows)), repr(again))

    def test_a_machine_without_arrows(self):
        self.told(ONE, (0, (), ()), (), (1, (), ()))
        self.told(ONE, (2, (), ()), (), (3, (), ()))
        self.told(TWO, (1, (), (0, 2)), (), (3, (), (0, 2, 4)))
        self.told(GAME[:1] + (("x",), ()), (0, (), (1,)), (), (2, (), (1, 3)))

    def test_arrows_of_places_and_of_own_stands(self):
        self.told(TWO, (0, (), ()), ((1, 0, (), 3),), (2, ((1, 0, ()), (3, 0, ())), ()))
        self.told(TWO, (1, (), ()), ((2, 0, (), 0),), (3, ((4, 0, ()),), ()))
        self.told(TWO, (2, (), ()), ((0, 1, (), 2), (3, 0, (), 0)), (4, ((0, 1, ()), (2, 1, ()), (5, 0, ())), ()))

    def test_targets_that_are_places_and_own_stands(self):
        self.told(TWO, (1, (), ()), ((0, 0, (0, 1, 2), 3),), (3, ((0, 0, (2, 3, 4)), (2, 0, (2, 3, 4))), ()))
        self.told(TWO, (2, (), ()), ((2, 1, (2, 3), 0),), (4, ((4, 1, (4, 5)),), ()))
        self.told(ONE, (0, (), ()), ((0, 1, (0,), 9),), (1, ((0, 1, (1,)), (1, 1, (1,))), ()))

    def test_ends_that_are_places_and_own_stands(self):
        for ends, told in (
            ((0,), (0, 2)), ((1,), (1, 3)), ((2,), (4,)), ((3,), (5,)), ((0, 1), (0, 1, 2, 3)), ((2, 3), (4, 5)),
            ((0, 3), (0, 2, 5)), ((0, 1, 2, 3), (0, 1, 2, 3, 4, 5)),
        ):
            self.told(TWO, (2, (), ends), (), (4, (), told))

    def test_alike_ones_but_for_the_cost_are_told_once(self):
        arrows = ((0, 0, (1,), 1), (0, 0, (1,), 4), (0, 0, (1,), 9), (1, 0, (), 0), (1, 0, (), 2))
        self.told(ONE, (1, (), (1,)), arrows, (2, ((0, 0, (2,)), (1, 0, (2,)), (2, 0, ())), (2,)))

    def test_arrows_in_any_order(self):
        for arrows in (MACHINE, MACHINE[::-1], MACHINE[3:] + MACHINE[:3], MACHINE + MACHINE):
            self.told(GAME, SAYING, arrows, AGAIN)

    def test_sorted_by_the_stands_not_by_the_machines_arrows(self):
        # Beyond ten stands, too.
        saying = (9, (), (4, 9))
        arrows = ((0, 0, (8, 9), 1), (1, 0, (9,), 0), (8, 1, (), 0), (9, 0, (1, 9), 0))
        self.told(ONE, saying, arrows, (10, (
            (0, 0, (9, 10)), (1, 0, (9, 10)), (2, 0, (10,)), (9, 1, ()), (10, 0, (2, 10)),
        ), (5, 10)))

    def test_more_than_eight_arrows_and_two_own_stands(self):
        told = as_saying(GAME, SAYING, MACHINE)
        self.assertEqual((told[0], len(told[1])), (3, 14))

    def test_so_just_where_the_machine_reads(self):
        seen = {True: 0, False: 0}
        for game, saying in [(GAME, SAYING), (WIDE_GAME, WIDE_SAYING)] + samples(120) + list(RICH):
            arrows = machine(game, saying)
            again = as_saying(game, saying, arrows)
            further = machine(game, again, 1000)
            for place, pile in itertools.product(range(len(game[0])), piles(len(game[1]), 3)):
                answer = plainly_reads(arrows, saying[2], place, pile)
                self.assertIs(is_in(again, place, pile), answer)
                self.assertIs(reads(further, again[2], place, pile), answer, (game, saying, place, pile))
                seen[answer] += 1
        self.assertGreater(min(seen.values()), 500)

    def test_once_more(self):
        for game, saying in samples(30):
            again = as_saying(game, saying, machine(game, saying))
            once_more = as_saying(game, again, machine(game, again, 1000))
            self.assertEqual(once_more[0], 2 * len(game[0]) + saying[0])
            for place, pile in itertools.product(range(len(game[0])), piles(len(game[1]), 3)):
                self.assertIs(is_in(once_more, place, pile), is_in(again, place, pile))

    def test_of_joined_sayings(self):
        for number, (game, saying) in enumerate(samples(40)):
            saying = either(game, saying, some_saying(4000 + number, game))
            arrows = machine(game, saying, 1000)
            again = as_saying(game, saying, arrows)
            for place, pile in itertools.product(range(len(game[0])), piles(len(game[1]), 3)):
                self.assertIs(is_in(again, place, pile), plainly_reads(arrows, saying[2], place, pile))

    def test_a_way_to_it_has_no_move(self):
        for game, saying in samples(40, [0, 0]):
            saying = (saying[0], tuple(arrow for arrow in saying[1] if len(arrow[2]) < 2), saying[2])
            again = as_saying(game, saying, machine(game, saying))
            for place, pile in itertools.product((0, 1), piles(len(game[1]), 2)):
                cost = least_cost(saying, paper_for(game, saying), place, pile)
                self.assertEqual(way_from(game, again, place, pile), None if cost is None else ())


class HandedInTest(unittest.TestCase):
    def test_what_is_handed_in_stays_as_it_was(self):
        handed = copy.deepcopy((GAME, SAYING, MACHINE))
        as_saying(*handed)
        self.assertEqual(repr(handed), repr((GAME, SAYING, MACHINE)))

    def test_asked_again_whatever_was_asked_between(self):
        for turn in range(3):
            self.assertEqual(repr(as_saying(GAME, SAYING, MACHINE)), repr(AGAIN))
            self.assertEqual(repr(as_saying(ONE, (0, (), (0,)), ())), repr((1, (), (0, 1))))


if __name__ == "__main__":
    unittest.main()
