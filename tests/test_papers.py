import copy
import unittest

from changes import length_changes, piles, row_changes, with_cost, with_row, with_why
from examples import GAME, PAPER, SAYING, WIDE_GAME, WIDE_PAPER, WIDE_SAYING
from pileduel.closing import machine
from pileduel.errors import DuelError, NoPaper
from pileduel.papers import paper_holds
from pileduel.sayings import reads
from plain import PlainPlay, plain_paper_at


def refused_at(game, saying, paper):
    try:
        paper_holds(game, saying, paper)
    except NoPaper as refusal:
        return refusal.at
    return None


class PaperCase(unittest.TestCase):
    game = GAME
    saying = SAYING

    def holds(self, paper, game=None, saying=None):
        self.assertIs(paper_holds(game or self.game, saying or self.saying, paper), True, paper)

    def refused(self, paper, at, game=None, saying=None):
        with self.assertRaises(NoPaper) as taken:
            paper_holds(game or self.game, saying or self.saying, paper)
        self.assertEqual(taken.exception.at, at, paper)
        self.assertIs(taken.exception.at.__class__, int)
        self.assertIsInstance(taken.exception, DuelError)


class HoldsTest(PaperCase):
    def test_a_paper_of_the_machine(self):
        self.assertEqual(tuple(sorted(row[:4] for row in PAPER)), machine(GAME, SAYING))
        self.holds(PAPER)

    def test_a_paper_with_first_rows_of_two_targets(self):
        self.assertEqual(tuple(sorted(row[:4] for row in WIDE_PAPER)), machine(WIDE_GAME, WIDE_SAYING))
        self.holds(WIDE_PAPER, WIDE_GAME, WIDE_SAYING)

    def test_stands_of_high_numbers(self):
        # Own stands from 1 to 20.
        game = ((("p", 0),), ("x", "y"), ((0, 1, 0, (0, 0)),))
        saying = (20, ((0, 0, (1, 2)), (1, 0, (8, 20)), (2, 0, (1, 9, 16))), ())
        rows = tuple(arrow + (0, ()) for arrow in saying[1])
        self.holds(rows + ((0, 1, (1, 8, 9, 16, 20), 1, ((0, 0, (1, 2)),)),), game, saying)
        self.refused(rows + ((0, 1, (8, 16, 1, 9, 20), 1, ((0, 0, (1, 2)),)),), 3, game, saying)
        saying = (20, ((0, 0, (1, 2)), (1, 0, (8,)), (2, 0, (1,))), ())
        rows = tuple(arrow + (0, ()) for arrow in saying[1])
        self.holds(rows + ((0, 1, (1, 8), 1, ((0, 0, (1, 2)),)),), game, saying)
        self.refused(rows + ((0, 1, (8, 1), 1, ((0, 0, (1, 2)),)),), 3, game, saying)

    def test_a_paper_without_rows(self):
        self.holds((), (GAME[0], GAME[1], ()), (0, (), ()))
        self.holds((), (GAME[0], GAME[1], ()), (2, (), (0, 1, 2)))
        self.holds((), (GAME[0], GAME[1], ((0, 0, 0, (0,)), (1, 0, 0, (0, 0)))), (1, (), (0,)))
        # One of the other's two rules has no reading.
        self.holds((), (GAME[0], GAME[1], ((1, 0, 0, ()), (1, 0, 0, (0,)))), (0, (), (0,)))

    def test_a_paper_without_rows_where_some_must_be(self):
        self.refused((), 0)
        self.refused((), 0, (GAME[0], GAME[1], ()), (0, ((0, 0, ()),), ()))
        self.refused((), 0, (GAME[0], GAME[1], ((0, 0, 0, ()),)), (0, (), ()))
        self.refused((), 0, (GAME[0], GAME[1], ((1, 0, 0, ()),)), (0, (), ()))

    def test_another_order_with_rows_ahead(self):
        paper = (
            (0, 0, (0,), 1, ((0, None, ()),)),
            (1, 0, (0,), 2, ((3, None, ()), (4, 0, ()))),
            (1, 1, (0,), 4, ((5, 1, (0,)),)),
            (2, 1, (2,), 0, ()),
            (0, 1, (2,), 0, ()),
            (2, 0, (), 0, ()),
            (0, 2, (), 1, ((2, 4, (5,)),)),
        )
        # One of the machine's arrows still lacks.
        self.refused(paper, 7)
        self.holds(paper + ((0, 1, (0,), 2, ((1, 0, ()),)),))

    def test_rows_that_are_there_twice(self):
        self.holds(PAPER + PAPER[:5])
        self.holds(PAPER + ((0, 1, (0,), 2, ((1, 3, ()),)),))

    def test_needless_rows_that_are_right(self):
        self.holds(PAPER + ((0, 0, (0,), 3, ((6, 6, ()),)),))
        self.holds(PAPER + ((0, 2, (0,), 4, ((2, 5, (3,)),)),))

    def test_costs_above_what_they_must_be(self):
        for cost in (2, 3, 9):
            self.holds(with_cost(PAPER, 7, 4 + cost))
            self.holds(with_cost(with_cost(PAPER, 4, 10 + cost), 7, 90))
        self.holds(with_cost(PAPER, 5, 100))
        self.holds(with_cost(PAPER, 2, 7))
        self.holds(with_cost(WIDE_PAPER, 6, 3), WIDE_GAME, WIDE_SAYING)

    def test_a_greater_cost_ahead_counts(self):
        # Row 3 dearer: rows 5, 6 and 7 are made of it.
        dear = with_cost(PAPER, 3, 6)
        self.refused(dear, 5)
        dear = with_cost(dear, 5, 7)
        self.refused(dear, 6)
        self.refused(with_cost(dear, 6, 6), 6)
        dear = with_cost(dear, 6, 7)
        self.refused(dear, 7)
        self.refused(with_cost(dear, 7, 13), 7)
        self.holds(with_cost(dear, 7, 14))


class WhyOfTheSayingTest(PaperCase):
    def test_a_cost_below_0(self):
        for cost in (-1, -2, -100):
            self.refused(with_cost(PAPER, 2, cost), 2)
            self.refused(with_cost(PAPER, 0, cost), 0)

    def test_not_an_arrow_of_the_saying(self):
        for row in (
            (0, 1, (), 0, ()), (0, 1, (0,), 0, ()), (0, 0, (2,), 0, ()), (1, 1, (2,), 0, ()), (2, 0, (2,), 0, ()),
            (0, 1, (2, 3), 0, ()), (0, 1, (2, 2), 0, ()), (2, 1, (), 0, ()), (9, 1, (2,), 0, ()), (0, 9, (2,), 0, ()),
            (-1, 1, (2,), 0, ()), (0, -2, (2,), 0, ()), (0, 0, (0,), 1, ()), (0, 2, (), 1, ()), (1, 0, (0,), 2, ()),
        ):
            self.refused((row,) + PAPER, 0)
            self.refused(PAPER + (row,), 8)

    def test_an_arrow_that_follows_is_not_the_sayings(self):
        self.refused(with_why(PAPER, 3), 3)
        self.refused(with_why(PAPER, 4), 4)
        self.refused(with_why(PAPER, 6), 6)

    def test_targets_that_do_not_rise(self):
        self.refused(with_row(WIDE_PAPER, 0, 1, 0, (3, 2), 0, ()), 0, WIDE_GAME, WIDE_SAYING)
        self.refused(with_row(WIDE_PAPER, 0, 1, 0, (2, 2, 3), 0, ()), 0, WIDE_GAME, WIDE_SAYING)
        self.refused(with_row(WIDE_PAPER, 1, 2, 0, (2, 2), 0, ()), 1, WIDE_GAME, WIDE_SAYING)

    def test_none_in_the_place_of_a_number(self):
        for row in ((None, 1, (2,), 0, ()), (0, None, (2,), 0, ()), (0, 1, (None,), 0, ()), (0, 1, (2,), None, ())):
            self.refused(with_row(PAPER, 0, *row), 0)


class StandTest(PaperCase):
    def test_a_stand_or_letter_that_is_not_there(self):
        for stand in (2, 3, 4, 100, -1, -2, None):
            self.refused(with_row(PAPER, 3, stand, 0, (0,), 1, ((0, None, ()),)), 3)
        for letter in (1, 2, 3, 100, -1, -3, None):
            self.refused(with_row(PAPER, 3, 0, letter, (0,), 1, ((0, None, ()),)), 3)

    def test_an_own_stand_is_no_place(self):
        self.refused(PAPER + ((2, 2, (), 1, ((2, 0, (1,)),)),), 8)
        self.refused(PAPER + ((2, 2, (0,), 1, ((0, None, ()),)),), 8)

    def test_another_place(self):
        self.refused(with_row(PAPER, 3, 1, 0, (0,), 1, ((0, None, ()),)), 3)
        self.refused(with_row(PAPER, 6, 0, 0, (0,), 2, ((3, None, ()), (4, 3, ()))), 6)


class TargetsTest(PaperCase):
    def test_other_targets(self):
        for targets in ((), (1,), (2,), (0, 1), (0, 2), (-1,), (None,)):
            self.refused(with_row(PAPER, 3, 0, 0, targets, 1, ((0, None, ()),)), 3)
            self.refused(with_row(PAPER, 5, 0, 1, targets, 2, ((1, 3, ()),)), 5)
            self.refused(with_row(PAPER, 6, 1, 0, targets, 2, PAPER[6][4]), 6)
        for targets in ((0,), (2,), (0, 2)):
            self.refused(with_row(PAPER, 4, 0, 2, targets, 1, ((2, 0, (1,)),)), 4)

    def test_other_targets_of_several_readings(self):
        for targets in ((0,), (2, 3), (0, 2), (0, 3), (0, 1, 2, 3), ()):
            self.refused(with_row(WIDE_PAPER, 6, 1, 1, targets, 2, WIDE_PAPER[6][4]), 6, WIDE_GAME, WIDE_SAYING)

    def test_targets_that_do_not_rise(self):
        self.refused(with_row(PAPER, 3, 0, 0, (0, 0), 1, ((0, None, ()),)), 3)
        self.refused(with_row(PAPER, 6, 1, 0, (0, 0), 2, PAPER[6][4]), 6)
        for targets in ((2, 3, 0), (0, 3, 2), (0, 0, 2, 3), (0, 2, 3, 3)):
            self.refused(with_row(WIDE_PAPER, 6, 1, 1, targets, 2, WIDE_PAPER[6][4]), 6, WIDE_GAME, WIDE_SAYING)


class CostTest(PaperCase):
    def test_one_less_than_it_may_be(self):
        for number in (3, 4, 5, 6, 7):
            self.refused(with_cost(PAPER, number, PAPER[number][3] - 1), number)
        for number in (4, 5, 6):
            self.refused(with_cost(WIDE_PAPER, number, WIDE_PAPER[number][3] - 1), number, WIDE_GAME, WIDE_SAYING)

    def test_below_0_and_none(self):
        for cost in (-1, -100, None):
            for number in (0, 3, 6):
                self.refused(with_cost(PAPER, number, cost), number)

    def test_the_first_ones_cost_and_the_greatest_of_the_others(self):
        # Row 5 is made of row 0 and of rows 2 and 3.
        for zero, two, three in ((4, 0, 0), (0, 4, 0), (0, 0, 4), (1, 3, 2), (1, 2, 3), (1, 3, 3)):
            paper = with_cost(with_cost(with_cost(WIDE_PAPER, 0, zero), 2, two), 3, three)
            paper = with_cost(paper, 6, 50)
            self.holds(with_cost(paper, 5, 5), WIDE_GAME, WIDE_SAYING)
            self.refused(with_cost(paper, 5, 4), 5, WIDE_GAME, WIDE_SAYING)

    def test_the_greatest_of_the_others_readings(self):
        # At row 6 one rule's reading costs 0, the other's what row 3 costs.
        paper = with_cost(with_cost(PAPER, 3, 5), 5, 6)
        self.refused(with_cost(paper, 6, 5), 6)
        self.refused(with_cost(paper, 6, 6), 7)
        self.holds(with_cost(with_cost(paper, 6, 6), 7, 12))


class WhyTest(PaperCase):
    def test_a_triple_too_many(self):
        self.refused(with_why(PAPER, 3, (0, None, ()), (0, None, ())), 3)
        self.refused(with_row(PAPER, 7, 0, 0, (0,), 9, ((0, None, ()), (6, 6, ()))), 7)
        self.refused(with_why(PAPER, 6, (3, None, ()), (4, 3, ()), (4, 3, ())), 6)
        self.refused(with_why(PAPER, 6, (3, None, ()), (4, 3, ()), (5, 3, ())), 6)
        self.refused(with_why(PAPER, 6, (3, None, ()), (3, None, ()), (4, 3, ())), 6)

    def test_a_triple_missing(self):
        self.refused(with_why(PAPER, 6, (3, None, ())), 6)
        self.refused(with_why(PAPER, 6, (4, 3, ())), 6)

    def test_out_of_order(self):
        self.refused(with_why(PAPER, 6, (4, 3, ()), (3, None, ())), 6)
        self.refused(with_why(WIDE_PAPER, 6, (3, None, ()), (2, 4, (0,))), 6, WIDE_GAME, WIDE_SAYING)

    def test_a_rule_that_is_none(self):
        for rule in (-1, -7, 7, 8, 100, None):
            self.refused(with_why(PAPER, 3, (rule, None, ())), 3)
            self.refused(with_why(PAPER, 6, (3, None, ()), (rule, 3, ())), 6)
            self.refused(with_why(PAPER, 6, (rule, None, ()), (4, 3, ())), 6)

    def test_a_rule_of_another_place_or_letter(self):
        self.refused(with_why(PAPER, 3, (3, None, ())), 3)
        self.refused(with_row(PAPER, 5, 0, 0, (0,), 2, ((1, 3, ()),)), 5)
        self.refused(with_row(PAPER, 6, 1, 1, (0,), 2, ((3, None, ()), (4, 3, ()))), 6)
        self.refused(with_row(PAPER, 7, 1, 0, (0,), 4, ((5, 6, (3,)),)), 7)

    def test_none_and_numbers_in_the_place_of_triples(self):
        for why in (None, (None,), (0,), ((0, None),), ((0, None, (), ()),), ((),), ((None, None, None),)):
            self.refused(with_row(PAPER, 3, *PAPER[3][:4], why), 3)
        for why in ((None, (4, 3, ())), ((3, None, ()), None), ((3, None, ()), (4, 3)), (3, 4), (None, None)):
            self.refused(with_row(PAPER, 6, *PAPER[6][:4], why), 6)

    def test_a_truth_is_no_whole_number(self):
        self.refused(with_cost(PAPER, 3, True), 3)
        self.refused(with_why(PAPER, 4, (2, False, (1,))), 4)
        self.refused(with_why(PAPER, 4, (2, 0, (True,))), 4)

    def test_a_why_where_no_rule_is(self):
        self.refused(PAPER + ((1, 2, (0,), 9, ((3, None, ()),)),), 8)

    def test_any_of_the_firsts_rules(self):
        self.holds(PAPER + ((0, 0, (0,), 3, ((6, 6, ()),)), (0, 0, (0,), 1, ((0, None, ()),))))


class FirstTest(PaperCase):
    def test_without_letters_it_is_none(self):
        for first in (0, 3, 6, -1, 100):
            self.refused(with_why(PAPER, 3, (0, first, ())), 3)
            self.refused(with_why(PAPER, 6, (3, first, ()), (4, 3, ())), 6)

    def test_with_letters_it_is_not_none(self):
        self.refused(with_why(PAPER, 5, (1, None, ())), 5)
        self.refused(with_why(PAPER, 4, (2, None, ())), 4)
        self.refused(with_why(PAPER, 4, (2, None, (1,))), 4)
        self.refused(with_why(PAPER, 6, (3, None, ()), (4, None, ())), 6)

    def test_a_row_that_is_not_ahead(self):
        for first in (-1, -5, -6, 8, 9, 100):
            self.refused(with_why(PAPER, 5, (1, first, ())), 5)
            self.refused(with_why(PAPER, 4, (2, first, (1,))), 4)
        # The row itself and one behind it, of the right stand and letter.
        loop = (GAME[0], GAME[1], ((0, 0, 0, (0,)),))
        self.refused(((0, 0, (), 1, ((0, 0, ()),)),), 0, loop, (0, (), ()))
        self.refused(((0, 0, (), 1, ((0, 1, ()),)), (0, 0, (), 0, ())), 0, loop, (0, ((0, 0, ()),), ()))
        self.holds(((0, 0, (), 0, ()), (0, 0, (), 1, ((0, 0, ()),))), loop, (0, ((0, 0, ()),), ()))

    def test_numbers_below_0_are_not_counted_from_behind(self):
        self.refused(with_why(PAPER, 5, (1, 3 - 5, ())), 5)
        self.refused(with_why(PAPER, 5, (1, 3 - 8, ())), 5)
        self.refused(with_why(PAPER, 4, (2, 0 - 4, (1,))), 4)
        self.refused(with_why(PAPER, 4, (2, 0, (1 - 4,))), 4)

    def test_a_row_of_another_stand_or_letter(self):
        for first in (0, 1, 2, 4):
            self.refused(with_row(PAPER, 5, 0, 1, PAPER[first][2], 9, ((1, first, ()),)), 5)
        for first in (1, 2, 3):
            self.refused(with_why(PAPER, 4, (2, first, (1,))), 4)


class RestTest(PaperCase):
    def test_with_fewer_letters_it_is_without_any(self):
        for rest in ((0,), (3,), (None,), None, (3, 3)):
            self.refused(with_why(PAPER, 3, (0, None, rest)), 3)
            self.refused(with_why(PAPER, 5, (1, 3, rest)), 5)
            self.refused(with_why(PAPER, 6, (3, None, rest), (4, 3, ())), 6)

    def test_missing_and_too_many(self):
        for rest in ((), (1, 1), (1, None), None, (None,)):
            self.refused(with_why(PAPER, 4, (2, 0, rest)), 4)
        for rest in ((), (2,), (3,), (2, 3, 3), (2, 3, 2), (2, None), (None, 3), None):
            self.refused(with_why(WIDE_PAPER, 5, (1, 0, rest)), 5, WIDE_GAME, WIDE_SAYING)

    def test_out_of_order(self):
        self.refused(with_why(WIDE_PAPER, 5, (1, 0, (3, 2))), 5, WIDE_GAME, WIDE_SAYING)

    def test_a_row_that_is_not_ahead(self):
        for number in (-1, -3, -7, 4, 7, 8, 100):
            self.refused(with_why(PAPER, 4, (2, 0, (number,))), 4)
        # The row itself, and one behind it, of the right stand and letter.
        game = (GAME[0], GAME[1], ((0, 0, 1, (1, 0)),))
        loop = (1, ((1, 1, (2,)), (2, 0, ())), ())
        self.refused(((1, 1, (2,), 0, ()), (0, 0, (), 1, ((0, 0, (2,)),)), (2, 0, (), 0, ())), 1, game, loop)
        self.holds(((1, 1, (2,), 0, ()), (2, 0, (), 0, ()), (0, 0, (), 1, ((0, 0, (1,)),))), game, loop)
        itself = (GAME[0], GAME[1], ((0, 0, 1, (1, 0)), (1, 1, 0, ())))
        self.refused(((1, 1, (0,), 1, ((1, None, ()),)), (0, 0, (), 9, ((0, 0, (1,)),))), 1, itself, (0, (), ()))
        self.refused(((1, 1, (0,), 1, ((1, None, ()),)), (0, 0, (0,), 9, ((0, 0, (1,)),))), 1, itself, (0, (), ()))

    def test_a_row_of_another_stand_or_letter(self):
        for number in (0, 2, 3):
            self.refused(with_row(PAPER, 4, 0, 2, PAPER[number][2], 9, ((2, 0, (number,)),)), 4)
        for rest in ((2, 2), (3, 3), (1, 3), (2, 1), (2, 0), (4, 3)):
            self.refused(with_why(with_cost(WIDE_PAPER, 5, 9), 5, (1, 0, rest)), 5, WIDE_GAME, WIDE_SAYING)

    def test_a_first_row_without_targets(self):
        game = (GAME[0], GAME[1], ((0, 0, 1, (1, 2)),))
        saying = (0, ((1, 1, ()),), ())
        self.holds(((1, 1, (), 0, ()), (0, 0, (), 1, ((0, 0, ()),))), game, saying)
        self.refused(((1, 1, (), 0, ()), (0, 0, (), 1, ((0, 0, (0,)),))), 1, game, saying)
        self.refused(((1, 1, (), 3, ()), (0, 0, (), 3, ((0, 0, ()),))), 1, game, saying)
        self.holds(((1, 1, (), 3, ()), (0, 0, (), 4, ((0, 0, ()),))), game, saying)


class ClosedTest(PaperCase):
    def test_an_arrow_of_the_saying_has_none_under_it(self):
        saying = (1, SAYING[1] + ((2, 2, ()),), (0,))
        self.refused(PAPER, 8, saying=saying)
        self.holds(PAPER + ((2, 2, (), 0, ()),), saying=saying)

    def test_an_arrow_of_the_saying_with_another_one_under_it(self):
        saying = (1, SAYING[1][:2] + ((2, 0, (2,)), SAYING[1][2]), (0,))
        self.holds(PAPER, saying=saying)
        # The other way about it is none under it.
        wide = with_row(PAPER, 1, 2, 0, (2,), 0, ())
        self.refused(with_row(wide, 4, 0, 2, (2,), 1, ((2, 0, (1,)),)), 8, saying=saying)

    def test_one_that_follows_has_none_under_it(self):
        self.refused(PAPER[:7], 7)
        self.refused(PAPER[:6], 6)
        self.refused(PAPER[:5], 5)
        self.refused(WIDE_PAPER[:6], 6, WIDE_GAME, WIDE_SAYING)
        self.refused(WIDE_PAPER[:4], 4, WIDE_GAME, WIDE_SAYING)

    def test_one_that_follows_with_other_targets_has_none_under_it(self):
        # Row 5 lacks: the saying's own arrow of that stand and letter has other targets.
        self.refused(PAPER[:5] + PAPER[6:7] + ((1, 1, (0,), 4, ((5, 5, (3,)),)),), 7)

    def test_what_follows_of_needless_rows_is_covered_by_less(self):
        self.holds(PAPER + ((0, 2, (0,), 4, ((2, 5, (3,)),)), (0, 0, (0,), 8, ((6, 6, ()),))))

    def test_costs_do_not_count_there(self):
        # A cheaper arrow would follow, but one with its targets is there.
        game = (GAME[0], GAME[1], ((0, 0, 0, ()), (0, 0, 0, (1,)), (0, 1, 0, ())))
        dear = ((0, 1, (0,), 1, ((2, None, ()),)), (0, 0, (0,), 2, ((1, 0, ()),)))
        self.holds(dear, game, (0, (), (0,)))

    def test_a_row_that_is_not_right_is_told_ahead(self):
        self.refused(with_cost(PAPER[:7], 6, 1), 6)
        self.refused(with_cost(PAPER[:7], 0, -1), 0)

    def test_the_first_of_several_rows_that_are_not_right(self):
        for first in range(8):
            paper = PAPER
            for number in range(first, 8):
                paper = with_cost(paper, number, -1)
            self.refused(paper, first)
        self.refused(with_cost(with_cost(PAPER, 6, 1), 3, 0), 3)


class ChangedTest(unittest.TestCase):
    def test_all_papers_near_one_that_holds(self):
        numbers = (None, -1, 0, 1, 2, 3, 4, 5, 6, 7, 8)
        seen = {}
        for game, saying, paper in ((GAME, SAYING, PAPER), (WIDE_GAME, WIDE_SAYING, WIDE_PAPER)):
            for number, row in enumerate(paper):
                for other in row_changes(row, numbers):
                    changed = with_row(paper, number, *other)
                    told = refused_at(game, saying, changed)
                    self.assertEqual(told, plain_paper_at(game, saying, changed), changed)
                    seen[told] = seen.get(told, 0) + 1
        self.assertGreater(seen[None], 60)
        self.assertTrue(all(seen[number] > 60 for number in range(8)))

    def test_papers_with_rows_left_out_or_moved(self):
        for game, saying, paper in ((GAME, SAYING, PAPER), (WIDE_GAME, WIDE_SAYING, WIDE_PAPER)):
            for changed in length_changes(paper, ()):
                self.assertEqual(refused_at(game, saying, changed), plain_paper_at(game, saying, changed), changed)


class ReadsTest(unittest.TestCase):
    def test_a_paper_let_by_reads_what_the_machine_reads(self):
        dear = with_cost(with_cost(PAPER, 7, 40), 5, 30) + ((0, 0, (0,), 3, ((6, 6, ()),)), PAPER[0])
        self.assertIs(paper_holds(GAME, SAYING, dear), True)
        arrows = tuple(row[:4] for row in dear)
        play = PlainPlay(GAME, SAYING)
        for pile in piles(3, 4):
            for place in (0, 1):
                told = reads(arrows, SAYING[2], place, pile)
                self.assertIs(told, reads(machine(GAME, SAYING), SAYING[2], place, pile))
                self.assertIs(told, play.within(place, pile, 12))


class HandedInTest(unittest.TestCase):
    def test_what_is_handed_in_stays_as_it_was(self):
        handed = copy.deepcopy((GAME, SAYING, PAPER))
        paper_holds(*handed)
        self.assertEqual(repr(handed), repr((GAME, SAYING, PAPER)))

    def test_asked_again_whatever_was_asked_between(self):
        for turn in range(3):
            self.assertIs(paper_holds(GAME, SAYING, PAPER), True)
            with self.assertRaises(NoPaper):
                paper_holds(GAME, SAYING, PAPER[:6])


if __name__ == "__main__":
    unittest.main()
