import copy
import unittest

from examples import GAME, MACHINE, PAPER, RICH, SAYING, WIDE_GAME, WIDE_PAPER, WIDE_SAYING
from pileduel.closing import machine
from pileduel.errors import DuelError, TooMany
from pileduel.joined import both, either
from pileduel.papermaker import paper_for
from pileduel.papers import paper_holds
from plain import all_whys, plain_paper_at, samples, some_saying

FIRST = (("p", 0), ("q", 0))
OTHER = (("p", 0), ("q", 1))


class PaperForCase(unittest.TestCase):
    def told(self, game, saying, paper):
        # Where no other why is right the paper must be just this one.
        self.assertEqual(repr(paper_for(game, saying)), repr(paper), (game, saying))


class PaperForTest(PaperForCase):
    def test_ordinary_papers(self):
        self.told(GAME, SAYING, PAPER)
        self.told(WIDE_GAME, WIDE_SAYING, WIDE_PAPER)

    def test_without_arrows_and_without_rules(self):
        self.told((FIRST, ("x",), ()), (0, (), ()), ())
        self.told((FIRST, ("x",), ()), (2, (), (0, 1, 2)), ())
        self.told((FIRST, ("x",), ((0, 0, 1, (0,)),)), (0, (), (0,)), ())

    def test_a_saying_without_arrows(self):
        self.told((FIRST, ("x",), ((0, 0, 1, ()),)), (0, (), (1,)), ((0, 0, (1,), 1, ((0, None, ()),)),))

    def test_a_sayings_own_arrows_have_no_why(self):
        saying = (1, ((0, 0, (2,)), (1, 0, ()), (2, 0, (2,))), (2,))
        self.told((FIRST, ("x",), ()), saying, tuple(arrow + (0, ()) for arrow in saying[1]))

    def test_by_cost_then_as_the_arrows_are_sorted(self):
        game = (FIRST, ("x", "y", "z"), ((0, 0, 0, (1,)), (0, 1, 0, (2,)), (0, 2, 0, ()), (1, 2, 1, (1,)), (1, 1, 1, ())))
        told = (
            (0, 2, (0,), 1, ((2, None, ()),)),
            (1, 1, (1,), 1, ((4, None, ()),)),
            (0, 1, (0,), 2, ((1, 0, ()),)),
            (1, 2, (1,), 2, ((3, 1, ()),)),
            (0, 0, (0,), 3, ((0, 2, ()),)),
        )
        self.told(game, (0, (), (0, 1)), told)

    def test_one_stand_and_letter_at_several_costs(self):
        game = (FIRST, ("x", "y"), ((0, 0, 1, ()), (0, 0, 1, (1,)), (1, 1, 1, (0,))))
        told = (
            (1, 0, (), 0, ()),
            (0, 0, (1,), 1, ((0, None, ()),)),
            (1, 1, (), 1, ((2, 0, ()),)),
            (0, 0, (), 2, ((1, 2, ()),)),
        )
        self.told(game, (0, ((1, 0, ()),), ()), told)

    def test_whys_of_the_others_two_rules(self):
        game = (OTHER, ("x", "y"), ((1, 0, 0, (0,)), (0, 0, 0, ()), (1, 0, 1, ()), (1, 1, 0, (0, 0)), (1, 1, 0, (0,))))
        told = (
            (0, 0, (0,), 1, ((1, None, ()),)),
            (1, 0, (0, 1), 2, ((0, 0, ()), (2, None, ()))),
            (1, 1, (0,), 3, ((3, 0, (0,)), (4, 0, ()))),
        )
        self.told(game, (0, (), (0,)), told)

    def test_a_first_row_without_targets(self):
        game = (FIRST, ("x", "y"), ((0, 0, 1, (1, 0)),))
        self.told(game, (0, ((1, 1, ()),), ()), ((1, 1, (), 0, ()), (0, 0, (), 1, ((0, 0, ()),))))

    def test_of_readings_the_one_that_costs_just_so(self):
        # Two first rows: one cheap with dear rows behind it, one dear with none.
        game = (FIRST, ("x", "y", "z"), (
            (0, 0, 1, (1, 2)), (1, 1, 1, (2,)), (1, 2, 0, ()), (1, 1, 0, ()), (0, 2, 0, (1,)), (0, 1, 0, ()),
        ))
        saying = (0, (), (0,))
        paper = paper_for(game, saying)
        self.assertIs(paper_holds(game, saying, paper), True)
        self.assertEqual(tuple(sorted(row[:4] for row in paper)), machine(game, saying))


    def test_a_first_row_without_targets_that_costs_too_much(self):
        # It stands ahead, but by rule 0 the arrow would cost one more than by rule 1.
        game = (FIRST, ("x", "y", "z"), ((1, 0, 0, (1, 0)), (1, 0, 0, (2,)), (0, 1, 0, (2,))))
        told = ((0, 2, (), 0, ()), (0, 1, (), 1, ((2, 0, ()),)), (1, 0, (), 1, ((1, 0, ()),)))
        self.told(game, (0, ((0, 2, ()),), ()), told)


class ManyTest(unittest.TestCase):
    def written(self, game, saying):
        arrows = machine(game, saying)
        paper = paper_for(game, saying)
        self.assertEqual([row[:4] for row in paper], sorted(arrows, key=lambda arrow: (arrow[3], arrow)))
        self.assertIs(paper_holds(game, saying, paper), True)
        self.assertIsNone(plain_paper_at(game, saying, paper))
        for number, row in enumerate(paper):
            if row[3] == 0:
                self.assertEqual(row[4], ())
            else:
                self.assertIn((row[4], row[2], row[3]), all_whys(game, paper[:number], row[0], row[1]))
        return paper

    def test_each_paper_written_is_let_by(self):
        seen = {}
        for game, saying in samples(250) + list(RICH):
            for row in self.written(game, saying):
                shapes = tuple(len(game[2][triple[0]][3]) for triple in row[4])
                seen[shapes] = seen.get(shapes, 0) + 1
        for shapes in ((), (0,), (1,), (2,), (0, 0), (0, 1), (1, 1), (2, 1), (2, 2), (0, 2)):
            self.assertGreater(seen.get(shapes, 0) + seen.get(tuple(reversed(shapes)), 0), 2, shapes)

    def test_of_joined_sayings(self):
        for number, (game, saying) in enumerate(samples(40)):
            second = some_saying(4000 + number, game)
            for one in (either(game, saying, second), both(game, saying, second)):
                self.written(game, one)
                self.written(game, either(game, one, saying))

    def test_tuples_numbers_and_none_alone(self):
        for game, saying in samples(40) + list(RICH):
            self.plain(paper_for(game, saying))

    def plain(self, value):
        if value.__class__ is tuple:
            for part in value:
                self.plain(part)
        else:
            self.assertTrue(value is None or value.__class__ is int, value)


class TooManyTest(unittest.TestCase):
    def refused(self, game, saying, most):
        with self.assertRaises(TooMany) as taken:
            paper_for(game, saying, most)
        self.assertEqual(taken.exception.most, most)
        self.assertIsInstance(taken.exception, DuelError)

    def test_as_many_as_there_are_and_one_fewer(self):
        self.assertEqual(len(MACHINE), 8)
        self.assertEqual(paper_for(GAME, SAYING, 8), PAPER)
        self.assertEqual(paper_for(GAME, SAYING, 200), PAPER)
        for most in range(1, 8):
            self.refused(GAME, SAYING, most)

    def test_just_where_the_machine_is(self):
        for game, saying in samples(40) + list(RICH):
            paper = paper_for(game, saying)
            self.assertEqual(paper_for(game, saying, max(1, len(paper))), paper)
            if len(paper) > 1:
                self.refused(game, saying, len(paper) - 1)

    def test_two_hundred_where_it_is_not_said(self):
        game = (FIRST, ("x", "y"), ())
        one = (2, ((2, 0, (2,)), (2, 1, (3,)), (3, 0, (2,)), (3, 1, (2, 3))), ())
        wide = one
        for turn in range(49):
            wide = either(game, wide, one)
        self.assertEqual(len(paper_for(game, wide)), 200)
        with self.assertRaises(TooMany) as taken:
            paper_for(game, either(game, wide, (0, ((0, 0, ()),), ())))
        self.assertEqual(taken.exception.most, 200)


class HandedInTest(unittest.TestCase):
    def test_what_is_handed_in_stays_as_it_was(self):
        handed = copy.deepcopy((GAME, SAYING))
        paper_for(*handed)
        self.assertEqual(repr(handed), repr((GAME, SAYING)))

    def test_asked_again_whatever_was_asked_between(self):
        for turn in range(3):
            self.assertEqual(paper_for(GAME, SAYING), PAPER)
            self.assertEqual(paper_for(WIDE_GAME, WIDE_SAYING), WIDE_PAPER)
            with self.assertRaises(TooMany):
                paper_for(GAME, SAYING, 7)


if __name__ == "__main__":
    unittest.main()
