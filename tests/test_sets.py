import copy
import unittest

from changes import piles
from examples import GAME, MACHINE, RICH, SAYING
from pileduel.closing import machine
from pileduel.joined import either
from pileduel.papermaker import paper_for
from pileduel.sets import sets_come_up, stands_reading
from plain import plainly_reads, samples, some_saying

# Two letters; stands 0 to 3.
LETTERS = ((("p", 0),), ("x", "y"), ())
ARROWS = ((0, 0, (1,), 1), (0, 1, (), 0), (1, 0, (2,), 2), (2, 1, (0, 2), 1), (2, 1, (3,), 4), (3, 0, (3,), 0))


def plain_set(arrows, ends, pile):
    stands = {arrow[0] for arrow in arrows} | set(ends)
    return tuple(sorted(stand for stand in stands if plainly_reads(arrows, ends, stand, pile)))


class StandsReadingTest(unittest.TestCase):
    def told(self, arrows, ends, pile, stands):
        self.assertEqual(repr(stands_reading(arrows, ends, pile)), repr(stands), (ends, pile))

    def test_the_pile_without_letters(self):
        for ends in ((), (0,), (3,), (0, 1, 3), (2, 7)):
            self.told(ARROWS, ends, (), ends)
            self.told((), ends, (), ends)

    def test_an_ordinary_pile(self):
        self.told(ARROWS, (2,), (0,), (1,))
        self.told(ARROWS, (2,), (0, 0), (0,))
        self.told(ARROWS, (2,), (1,), (0,))
        self.told(ARROWS, (0, 2), (1,), (0, 2))
        self.told(ARROWS, (3,), (1,), (0, 2))
        self.told(ARROWS, (3,), (0, 1), (1,))

    def test_no_stand_at_all(self):
        self.told(ARROWS, (), (0,), ())
        self.told(ARROWS, (2,), (0, 1), ())
        self.told((), (0,), (0,), ())

    def test_a_stand_of_two_arrows_once(self):
        self.told(((0, 0, (), 1), (0, 0, (), 2), (0, 0, (1,), 0)), (1,), (0,), (0,))

    def test_rising_whatever_the_order_of_the_arrows(self):
        for arrows in (ARROWS, tuple(reversed(ARROWS)), ARROWS[3:] + ARROWS[:3]):
            self.told(arrows, (0, 2, 3), (1,), (0, 2))
            self.told(arrows, (1, 2, 3), (0,), (0, 1, 3))
        self.told(((20, 0, (), 0), (9, 0, (), 0), (1, 0, (), 0), (16, 0, (), 0)), (), (0,), (1, 9, 16, 20))

    def test_with_a_cost_or_without(self):
        bare = tuple(arrow[:3] for arrow in ARROWS)
        for pile in piles(2, 4):
            self.told(bare, (2, 3), pile, stands_reading(ARROWS, (2, 3), pile))

    def test_by_all_short_piles(self):
        for game, saying in samples(60) + list(RICH):
            for arrows in (saying[1], machine(game, saying)):
                for pile in piles(len(game[1]), 3):
                    self.told(arrows, saying[2], pile, plain_set(arrows, saying[2], pile))


class SetsComeUpTest(unittest.TestCase):
    def told(self, game, arrows, ends, pairs):
        self.assertEqual(repr(sets_come_up(game, arrows, ends)), repr(pairs), (arrows, ends))

    def test_an_ordinary_one(self):
        self.told(LETTERS, ARROWS, (2,), [((2,), ()), ((1,), (0,)), ((0,), (1,)), ((), (0, 1))])
        self.told(LETTERS, ARROWS, (3,), [
            ((3,), ()), ((0, 2), (1,)), ((1,), (0, 1)), ((0,), (0, 0, 1)), ((), (0, 0, 0, 1)),
        ])

    def test_the_order_of_the_sets(self):
        # Letter by letter of the first set, then of the next ones in the order in which they came.
        arrows = ((1, 0, (0,)), (2, 1, (0,)), (3, 0, (1,)), (4, 1, (1,)), (5, 0, (2,)), (6, 1, (2,)))
        self.told(LETTERS, arrows, (0,), [
            ((0,), ()), ((1,), (0,)), ((2,), (1,)), ((3,), (0, 0)), ((4,), (1, 0)), ((5,), (0, 1)), ((6,), (1, 1)),
            ((), (0, 0, 0)),
        ])

    def test_the_first_pile_by_which_it_came(self):
        # The same set by the second letter, and by the first on another: the first one counts.
        arrows = ((1, 0, (0,)), (1, 1, (0,)), (2, 0, (1,)), (2, 1, (1,)))
        self.told(LETTERS, arrows, (0,), [((0,), ()), ((1,), (0,)), ((2,), (0, 0)), ((), (0, 0, 0))])

    def test_no_letter_that_brings_a_new_one(self):
        self.told(LETTERS, ((0, 0, (0,)), (0, 1, (0,))), (0,), [((0,), ())])
        self.told(LETTERS, (), (), [((), ())])
        self.told((LETTERS[0], ("x",), ()), ((0, 0, ()),), (0,), [((0,), ())])

    def test_the_set_without_stands(self):
        self.told(LETTERS, (), (0, 1), [((0, 1), ()), ((), (0,))])
        # Behind it others may come again.
        self.told(LETTERS, ((1, 1, ()),), (0,), [((0,), ()), ((), (0,)), ((1,), (1,))])
        self.told(LETTERS, ((1, 1, ()),), (), [((), ()), ((1,), (1,))])

    def test_each_of_the_games_letters(self):
        arrows = ((0, 2, ()),)
        self.told((LETTERS[0], ("x", "y"), ()), arrows, (0,), [((0,), ()), ((), (0,))])
        self.told((LETTERS[0], ("x", "y", "z"), ()), arrows, (), [((), ()), ((0,), (2,))])

    def test_arrows_in_another_order_and_without_a_cost(self):
        told = sets_come_up(LETTERS, ARROWS, (2, 3))
        bare = tuple(arrow[:3] for arrow in ARROWS)
        for arrows in (tuple(reversed(ARROWS)), ARROWS[2:] + ARROWS[:2], bare, tuple(reversed(bare))):
            self.told(LETTERS, arrows, (2, 3), told)

    def test_of_a_machine(self):
        self.told(GAME, MACHINE, SAYING[2], [((0,), ()), ((0, 1, 2), (0,)), ((0, 1), (1,))])

    def test_as_gone_through_pile_by_pile(self):
        many = {}
        for game, saying in samples(120) + list(RICH):
            rows = [saying[1], machine(game, saying), [row[:4] for row in paper_for(game, saying)]]
            for arrows in rows:
                told = sets_come_up(game, arrows, saying[2])
                self.gone_through(game, arrows, saying[2], told)
                many[len(told)] = True
        self.assertGreater(len(many), 5)

    def gone_through(self, game, arrows, ends, told):
        self.assertEqual(told[0], (ends, ()))
        found = [(ends, ())]
        # The list grows while it is walked: set by set, letter by letter.
        for stands, pile in found:
            for letter in range(len(game[1])):
                above = plain_set(arrows, ends, (letter,) + pile)
                if above not in [one for one, first in found]:
                    found.append((above, (letter,) + pile))
        self.assertEqual(told, found)
        for pile in piles(len(game[1]), 3):
            self.assertIn(plain_set(arrows, ends, pile), [one for one, first in told])

    def test_of_joined_sayings(self):
        for number, (game, saying) in enumerate(samples(20)):
            one = either(game, saying, some_saying(5000 + number, game))
            self.gone_through(game, one[1], one[2], sets_come_up(game, one[1], one[2]))


class HandedInTest(unittest.TestCase):
    def test_what_is_handed_in_stays_as_it_was(self):
        handed = copy.deepcopy((GAME, MACHINE, SAYING[2]))
        sets_come_up(*handed)
        stands_reading(handed[1], handed[2], (0, 1))
        self.assertEqual(repr(handed), repr((GAME, MACHINE, SAYING[2])))

    def test_a_told_list_is_the_askers_own(self):
        told = sets_come_up(LETTERS, ARROWS, (2,))
        before = list(told)
        told.clear()
        told.append(7)
        self.assertEqual(sets_come_up(LETTERS, ARROWS, (2,)), before)


if __name__ == "__main__":
    unittest.main()
