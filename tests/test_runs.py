import copy
import unittest

from changes import dearer, piles, with_cost
from examples import GAME, PAPER, RICH, SAYING, WIDE_GAME, WIDE_PAPER, WIDE_SAYING
from pileduel.closing import machine
from pileduel.papermaker import paper_for
from pileduel.papers import paper_holds
from pileduel.play import behind, rules_here
from pileduel.runs import least_cost, rule_to_go, run_behind, run_cost, run_from
from pileduel.sayings import is_in, reads
from plain import PlainPlay, all_runs, plain_cost, plain_run_cost, samples

# Place 0, own stands 1 to 3; all arrows are the saying's, so that costs may be any.
FREE_GAME = ((("p", 0),), ("x", "y"), ())
FREE_SAYING = (3, (
    (0, 0, (1,)), (0, 0, (2,)), (0, 0, (1, 2)), (1, 0, (3,)), (1, 1, ()), (2, 0, (3,)), (2, 1, (1, 3)), (3, 0, (3,)),
    (3, 1, ()),
), (3,))


def free_paper(*costs):
    return tuple(arrow + (cost, ()) for arrow, cost in zip(FREE_SAYING[1], costs, strict=True))


class RunCase(unittest.TestCase):
    def told(self, saying, paper, place, pile, run, cost):
        # By its writing: tuples within tuples, and whole numbers.
        self.assertEqual(repr(run_from(saying, paper, place, pile)), repr(run), (place, pile))
        self.assertEqual(repr(least_cost(saying, paper, place, pile)), repr(cost), (place, pile))
        if run is not None:
            self.assertEqual(repr(run_cost(paper, run)), repr(cost), (place, pile))

    def is_run(self, saying, paper, place, pile, run):
        self.assertEqual(len(run), len(pile))
        stands = [place]
        for letter, layer in zip(pile, run):
            self.assertEqual([stand for stand, number in layer], stands)
            for stand, number in layer:
                self.assertEqual(paper[number][:2], (stand, letter))
            stands = sorted({target for stand, number in layer for target in paper[number][2]})
        self.assertTrue(set(stands) <= set(saying[2]))


class RunFromTest(RunCase):
    def test_the_pile_without_letters(self):
        self.told(SAYING, PAPER, 0, (), (), 0)
        self.told(SAYING, PAPER, 1, (), None, None)
        self.told(WIDE_SAYING, WIDE_PAPER, 0, (), None, None)
        self.told((0, (), (0, 1)), (), 1, (), (), 0)

    def test_one_letter(self):
        self.told(SAYING, PAPER, 0, (0,), (((0, 3),),), 1)
        self.told(SAYING, PAPER, 0, (2,), (((0, 4),),), 1)
        self.told(SAYING, PAPER, 1, (0,), (((1, 6),),), 2)
        self.told(SAYING, PAPER, 1, (1,), (((1, 7),),), 4)
        self.told(SAYING, PAPER, 1, (2,), None, None)

    def test_targets_behind_the_last_letter_that_are_no_ends(self):
        # Row 0 costs nothing, but its target is no end.
        self.told(SAYING, PAPER, 0, (1,), (((0, 5),),), 2)
        self.told((1, SAYING[1], ()), PAPER, 0, (1,), None, None)
        self.told((1, SAYING[1], (2,)), PAPER, 0, (1,), (((0, 0),),), 0)

    def test_several_letters(self):
        self.told(SAYING, PAPER, 0, (1, 0), (((0, 0),), ((2, 1),)), 0)
        self.told(SAYING, PAPER, 0, (1, 1, 0), (((0, 0),), ((2, 2),), ((2, 1),)), 0)
        self.told(SAYING, PAPER, 0, (0, 0, 0), (((0, 3),), ((0, 3),), ((0, 3),)), 3)
        self.told(SAYING, PAPER, 1, (0, 1, 0), (((1, 6),), ((0, 0),), ((2, 1),)), 2)
        self.told(SAYING, PAPER, 1, (1, 0), (((1, 7),), ((0, 3),)), 5)
        self.told(SAYING, PAPER, 1, (1, 0, 0, 0, 0, 1), (((1, 7),),) + (((0, 3),),) * 4 + (((0, 5),),), 10)
        self.told(SAYING, PAPER, 0, (0, 0, 0, 0, 0, 0), (((0, 3),),) * 6, 6)

    def test_rows_without_targets(self):
        self.told(SAYING, PAPER, 0, (2, 0), (((0, 4),), ()), 1)
        self.told(SAYING, PAPER, 0, (2, 2, 1, 0, 0, 2), (((0, 4),), (), (), (), (), ()), 1)
        self.told(SAYING, PAPER, 0, (0, 1, 0, 2, 2), (((0, 3),), ((0, 0),), ((2, 1),), (), ()), 1)

    def test_none_where_none_is_there(self):
        for rest in piles(3, 3):
            self.told(SAYING, PAPER, 1, (2,) + rest, None, None)
        self.told((1, SAYING[1], ()), PAPER, 0, (0, 0), None, None)
        self.told((0, (), (0,)), (), 0, (0,), None, None)
        self.told(WIDE_SAYING, WIDE_PAPER, 1, (0, 0), None, None)

    def test_several_stands_rising(self):
        self.told(WIDE_SAYING, WIDE_PAPER, 1, (0, 1, 0), (((1, 0),), ((2, 2), (3, 3)), ((2, 1),)), 0)

    def test_a_stand_that_several_rows_have_as_a_target(self):
        run = (((1, 6),), ((0, 5), (2, 2), (3, 3)), ((2, 1),))
        self.told(WIDE_SAYING, WIDE_PAPER, 1, (1, 1, 0), run, 3)

    def test_stands_of_high_numbers_rise(self):
        saying = (16, ((0, 0, (2, 3)), (1, 0, ()), (2, 0, (8, 16)), (3, 0, (1,)), (8, 0, ()), (16, 0, ())), ())
        paper = tuple(arrow + (0, ()) for arrow in saying[1])
        run = (((0, 0),), ((2, 2), (3, 3)), ((1, 1), (8, 4), (16, 5)), ())
        self.told(saying, paper, 0, (0, 0, 0, 0), run, 0)
        few = (8, ((0, 0, (2, 3)), (1, 0, ()), (2, 0, (8,)), (3, 0, (1,)), (8, 0, ())), ())
        self.told(few, tuple(arrow + (0, ()) for arrow in few[1]), 0, (0,) * 3, run[:2] + (((1, 1), (8, 4)),), 0)

    def test_of_two_runs_the_one_of_lesser_cost(self):
        # Stand 1 beneath is dear, stand 2 cheap, and the other way about; both together as the greater.
        for costs, row, cost in (
            ((0, 3, 0, 9, 0, 1, 0, 0, 0), 1, 4), ((3, 0, 0, 1, 0, 9, 0, 0, 0), 0, 4), ((8, 9, 0, 2, 0, 5, 0, 0, 0), 2, 5),
            ((8, 9, 2, 5, 0, 4, 0, 0, 0), 2, 7),
        ):
            paper = free_paper(*costs)
            self.assertIs(paper_holds(FREE_GAME, FREE_SAYING, paper), True)
            beneath = tuple((stand, {1: 3, 2: 5}[stand]) for stand in paper[row][2])
            self.told(FREE_SAYING, paper, 0, (0, 0), (((0, row),), beneath), cost)

    def test_a_cheap_row_whose_targets_do_not_read(self):
        paper = free_paper(0, 5, 0, 0, 0, 0, 0, 0, 0)
        self.told((3, FREE_SAYING[1], (2,)), paper, 0, (0,), (((0, 1),),), 5)
        self.told((3, FREE_SAYING[1], (1, 2)), paper, 0, (0,), (((0, 0),),), 0)

    def test_the_greatest_sum_along_a_way_not_the_sum_of_all(self):
        paper = free_paper(900, 900, 1, 10, 10, 20, 20, 100, 7)
        self.told(FREE_SAYING, paper, 0, (0, 0), (((0, 2),), ((1, 3), (2, 5))), 21)
        # At the last letter stand 2 has targets 1 and 3, of which 3 is an end alone.
        ends = (3, FREE_SAYING[1], (1, 3))
        self.told(ends, paper, 0, (0, 1), (((0, 2),), ((1, 4), (2, 6))), 21)
        self.told(FREE_SAYING, paper, 0, (0, 1, 0), (((0, 2),), ((1, 4), (2, 6)), ((1, 3), (3, 7))), 121)
        self.told(FREE_SAYING, paper, 0, (0, 1, 1), (((0, 2),), ((1, 4), (2, 6)), ((1, 4), (3, 8))), 31)

    def test_papers_with_rows_twice(self):
        twice = PAPER + tuple(row[:3] + (row[3] + 5, row[4]) for row in PAPER)
        self.assertIs(paper_holds(GAME, SAYING, twice), True)
        self.told(SAYING, twice, 1, (1, 0), (((1, 7),), ((0, 3),)), 5)
        dear_first = tuple(row[:3] + (row[3] + 5, ()) for row in PAPER[:3]) + PAPER[:3]
        self.told(SAYING, dear_first, 0, (1, 0), (((0, 3),), ((2, 4),)), 0)

    def test_by_each_run_there_is(self):
        for game, saying, paper in (
            (GAME, SAYING, PAPER + ((0, 0, (0,), 3, ((6, 6, ()),)), (0, 1, (2,), 4, ()))),
            (WIDE_GAME, WIDE_SAYING, WIDE_PAPER + WIDE_PAPER[:3]),
            (FREE_GAME, FREE_SAYING, free_paper(1, 4, 2, 7, 3, 0, 5, 2, 6)),
            (FREE_GAME, (3, FREE_SAYING[1], (1, 2)), free_paper(3, 3, 3, 1, 0, 1, 2, 9, 4)),
        ):
            self.assertIs(paper_holds(game, saying, paper), True)
            for pile in piles(len(game[1]), 4):
                for place in range(len(game[0])):
                    self.of_all_runs(saying, paper, place, pile)

    def of_all_runs(self, saying, paper, place, pile):
        runs = all_runs(saying, paper, place, pile)
        run = run_from(saying, paper, place, pile)
        if not runs:
            self.assertIsNone(run)
            self.assertIsNone(least_cost(saying, paper, place, pile))
            return
        costs = [plain_run_cost(paper, one, place) for one in runs]
        self.assertEqual([run_cost(paper, one) for one in runs], costs)
        self.assertIn(run, runs)
        self.assertEqual(run_cost(paper, run), min(costs))
        self.assertEqual(least_cost(saying, paper, place, pile), min(costs))

    def test_of_many_papers_just_where_it_is_read(self):
        for game, saying in samples(120) + list(RICH):
            paper = paper_for(game, saying)
            arrows = machine(game, saying)
            play = PlainPlay(game, saying)
            for pile in piles(len(game[1]), 3):
                for place in range(len(game[0])):
                    run = run_from(saying, paper, place, pile)
                    cost = plain_cost(arrows, saying[2], place, pile)
                    self.assertEqual(least_cost(saying, paper, place, pile), cost)
                    self.assertIs(run is not None, reads(arrows, saying[2], place, pile))
                    if run is None:
                        self.assertFalse(play.within(place, pile, 5))
                    else:
                        self.is_run(saying, paper, place, pile, run)
                        self.assertEqual(run_cost(paper, run), cost)
                        if cost < 7:
                            self.assertTrue(play.within(place, pile, cost))

    def test_a_high_pile_with_many_ways(self):
        saying = (0, tuple((stand, 0, targets) for stand in (0, 1, 2) for targets in ((0, 1), (0, 2), (1, 2))), (0, 1))
        paper = tuple(arrow + (1, ()) for arrow in saying[1])
        self.assertEqual(least_cost(saying, paper, 0, (0,) * 300), 300)
        run = run_from(saying, paper, 0, (0,) * 300)
        self.is_run(saying, paper, 0, (0,) * 300, run)
        self.assertEqual(run_cost(paper, run), 300)


class RuleToGoTest(unittest.TestCase):
    def test_the_rule_of_why(self):
        for pile, rule in (((0,), 0), ((0, 2), 0), ((1,), 1), ((2,), 2), ((2, 1, 0), 2)):
            told = rule_to_go(GAME, PAPER, 0, run_from(SAYING, PAPER, 0, pile))
            self.assertEqual(repr(told), repr(rule), pile)

    def test_none_where_the_saying_is_come_to(self):
        self.assertIsNone(rule_to_go(GAME, PAPER, 0, run_from(SAYING, PAPER, 0, (1, 0))))
        self.assertIsNone(rule_to_go(GAME, PAPER, 0, run_from(SAYING, PAPER, 0, (1, 1, 0, 2))))

    def test_none_at_an_empty_pile(self):
        self.assertIsNone(rule_to_go(GAME, PAPER, 0, ()))
        self.assertIsNone(rule_to_go((((("p"), 0),), ("x",), ()), (), 0, ()))

    def test_at_the_others_place_there_is_none_for_the_first(self):
        self.assertIsNone(rule_to_go(GAME, PAPER, 1, run_from(SAYING, PAPER, 1, (0,))))
        self.assertIsNone(rule_to_go(GAME, PAPER, 1, run_from(SAYING, PAPER, 1, (1, 0))))

    def test_another_rule_that_a_paper_tells(self):
        # Of the first's two rules at place 0 and letter 0 this paper goes by the other one.
        paper = (
            (0, 1, (0,), 1, ((2, None, ()),)),
            (0, 0, (0,), 2, ((1, 0, ()),)),
        )
        game = (GAME[0], GAME[1], ((0, 0, 0, ()), (0, 0, 0, (1,)), (0, 1, 0, ())))
        saying = (0, (), (0,))
        self.assertIs(paper_holds(game, saying, paper), True)
        self.assertEqual(rule_to_go(game, paper, 0, run_from(saying, paper, 0, (0,))), 1)

    def test_where_one_stands_may_be_in_the_saying_ahead_of_that(self):
        # The row with a why comes to the same targets, and is the one that the run tells.
        game = (GAME[0], GAME[1], ((0, 0, 0, ()),))
        saying = (1, ((0, 0, (2,)), (2, 0, (2,))), (0, 2))
        paper = ((0, 0, (2,), 9, ()), (2, 0, (2,), 0, ()), (0, 0, (0,), 1, ((0, None, ()),)))
        self.assertIs(paper_holds(game, saying, paper), True)
        self.assertTrue(is_in(saying, 0, (0,)))
        self.assertEqual(rule_to_go(game, paper, 0, run_from(saying, paper, 0, (0,))), 0)


class RunBehindTest(RunCase):
    def behind(self, game, saying, paper, place, pile, rule, run):
        told = run_behind(game, paper, run_from(saying, paper, place, pile), rule)
        self.assertEqual(repr(told), repr(run), (place, pile, rule))
        further, beneath = behind(game, place, pile, rule)
        self.is_run(saying, paper, further, beneath, told)

    def test_a_rule_without_letters(self):
        self.behind(GAME, SAYING, PAPER, 0, (0,), 0, ())
        self.behind(GAME, SAYING, PAPER, 0, (0, 1, 0), 0, (((0, 0),), ((2, 1),)))
        self.behind(GAME, SAYING, PAPER, 0, (0, 2, 0), 0, (((0, 4),), ()))

    def test_a_rule_with_one_letter(self):
        self.behind(GAME, SAYING, PAPER, 0, (1,), 1, (((0, 3),),))
        self.behind(GAME, SAYING, PAPER, 0, (1, 2, 2), 1, (((0, 3),), ((0, 4),), ()))

    def test_a_rule_with_two_letters(self):
        self.behind(GAME, SAYING, PAPER, 0, (2,), 2, (((0, 0),), ((2, 1),)))
        self.behind(GAME, SAYING, PAPER, 0, (2, 0, 1), 2, (((0, 0),), ((2, 1),), (), ()))
        self.behind(WIDE_GAME, WIDE_SAYING, WIDE_PAPER, 0, (1, 0), 1, (((1, 0),), ((2, 2), (3, 3)), ((2, 1),)))
        self.behind(WIDE_GAME, WIDE_SAYING, WIDE_PAPER, 0, (1,), 1, (((1, 0),), ((2, 2), (3, 3))))

    def test_each_rule_of_the_others(self):
        self.behind(GAME, SAYING, PAPER, 1, (0, 1, 0), 3, (((0, 0),), ((2, 1),)))
        self.behind(GAME, SAYING, PAPER, 1, (0, 1, 0), 4, (((0, 3),), ((0, 0),), ((2, 1),)))
        self.behind(GAME, SAYING, PAPER, 1, (1, 0), 5, (((1, 6),), ((0, 3),), ((0, 3),)))

    def test_only_stands_that_are_still_targets_go_on(self):
        # Of the stands 0, 2 and 3 beneath, by the one rule 2 and 3, by the other 0.
        wide = (WIDE_GAME, WIDE_SAYING, WIDE_PAPER)
        self.behind(*wide, 1, (1, 1, 0), 2, (((0, 4),), ((1, 0),), ((2, 2), (3, 3)), ((2, 1),)))
        self.behind(*wide, 1, (1, 1, 0), 3, (((0, 5),), ((2, 1),)))

    def test_stands_further_beneath_that_are_no_targets_any_more(self):
        # The place's row has targets 2 and 0; the way by 0 alone has no more stands beneath.
        game = ((("p", 1), ("q", 0)), ("x", "y"), ((0, 0, 0, ()), (0, 0, 1, (0,))))
        saying = (1, ((0, 1, ()), (1, 0, (2,)), (2, 1, (2,))), (2,))
        paper = paper_for(game, saying)
        run = run_from(saying, paper, 0, (0, 1, 1))
        self.assertEqual([[stand for stand, number in layer] for layer in run], [[0], [0, 2], [2]])
        self.assertEqual([[stand for stand, number in layer] for layer in run_behind(game, paper, run, 0)], [[0], []])
        self.behind(game, saying, paper, 0, (0, 1, 1), 0, (((0, 0),), ()))
        self.behind(game, saying, paper, 0, (0, 1, 1), 1, (((1, 1),), ((2, 2),), ((2, 2),)))

    def test_a_first_row_without_targets(self):
        game = (GAME[0], GAME[1], ((0, 0, 1, (1, 0)),))
        saying = (0, ((1, 1, ()),), ())
        self.behind(game, saying, paper_for(game, saying), 0, (0, 2), 0, (((1, 0),), (), ()))

    def test_another_papers_choice(self):
        # A needless row by a longer way is gone by where a run of it is handed in.
        paper = PAPER + ((0, 0, (0,), 3, ((6, 6, ()),)),)
        self.assertEqual(run_behind(GAME, paper, (((0, 8),), ((0, 3),)), 6), (((1, 6),), ((0, 3),)))
        self.assertEqual(rule_to_go(GAME, paper, 0, (((0, 8),), ((0, 3),))), 6)


class PlansTest(RunCase):
    def comes_to_the_saying(self, game, saying, paper, place, pile, run):
        self.is_run(saying, paper, place, pile, run)
        why = paper[run[0][0][1]][4] if run else ()
        if not why:
            self.assertTrue(is_in(saying, place, pile), (game, saying, place, pile))
            self.assertIsNone(rule_to_go(game, paper, place, run))
            return
        if game[0][place][1] == 0:
            rules = [rule_to_go(game, paper, place, run)]
            self.assertIn(rules[0], rules_here(game, place, pile))
        else:
            rules = rules_here(game, place, pile)
            self.assertTrue(rules)
        for rule in rules:
            further = run_behind(game, paper, run, rule)
            self.assertLess(run_cost(paper, further), run_cost(paper, run))
            self.comes_to_the_saying(game, saying, paper, *behind(game, place, pile, rule), further)

    def gone_through(self, game, saying, paper, height):
        many = 0
        self.assertIs(paper_holds(game, saying, paper), True)
        for pile in piles(len(game[1]), height):
            for place in range(len(game[0])):
                run = run_from(saying, paper, place, pile)
                if run is not None and run_cost(paper, run) <= 9:
                    self.comes_to_the_saying(game, saying, paper, place, pile, run)
                    many += run_cost(paper, run) > 0
        return many

    def test_ordinary_ones(self):
        self.assertGreater(self.gone_through(GAME, SAYING, PAPER, 4), 50)
        self.assertGreater(self.gone_through(WIDE_GAME, WIDE_SAYING, WIDE_PAPER, 6), 20)

    def test_many(self):
        many = 0
        for game, saying in samples(150) + list(RICH):
            many += self.gone_through(game, saying, paper_for(game, saying), 3)
        self.assertGreater(many, 500)

    def test_papers_of_greater_costs_than_need_be(self):
        many = 0
        for game, saying in [(GAME, SAYING), (WIDE_GAME, WIDE_SAYING)] + samples(60):
            many += self.gone_through(game, saying, dearer(paper_for(game, saying), 2), 3)
            many += self.gone_through(game, saying, paper_for(game, saying) + paper_for(game, saying), 2)
        self.assertGreater(many, 100)

    def test_a_paper_dearer_in_one_row(self):
        self.assertGreater(self.gone_through(GAME, SAYING, with_cost(PAPER, 7, 9), 3), 20)
        self.assertGreater(self.gone_through(GAME, SAYING, with_cost(with_cost(PAPER, 0, 6), 4, 7), 3), 20)


class HandedInTest(unittest.TestCase):
    def test_what_is_handed_in_stays_as_it_was(self):
        handed = copy.deepcopy((GAME, SAYING, PAPER))
        game, saying, paper = handed
        run = run_from(saying, paper, 1, (0, 1, 0))
        before = repr(run)
        run_cost(paper, run)
        least_cost(saying, paper, 1, (0, 1, 0))
        rule_to_go(game, paper, 1, run)
        run_behind(game, paper, run, 4)
        self.assertEqual(repr((handed, run)), f"({(GAME, SAYING, PAPER)!r}, {before})")

    def test_asked_again_whatever_was_asked_between(self):
        for turn in range(3):
            self.assertEqual(run_from(SAYING, PAPER, 1, (1, 0)), (((1, 7),), ((0, 3),)))
            self.assertEqual(least_cost(SAYING, PAPER, 0, (0, 0)), 2)
            self.assertIsNone(run_from(SAYING, PAPER, 1, (2,)))
            self.assertEqual(run_behind(GAME, PAPER, (((1, 6),),), 3), ())
            self.assertEqual(run_behind(GAME, PAPER, (((1, 6),),), 4), (((0, 3),),))


if __name__ == "__main__":
    unittest.main()
