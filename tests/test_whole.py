"""The rows of the promise over the whole program, over games and sayings of several kinds.

That a program's runs are its plays is in test_compiled.
"""

import itertools
import unittest

from changes import dearer, piles
from examples import GAME, RICH, SAYING, WIDE_GAME, WIDE_SAYING
from pileduel.again import as_saying
from pileduel.changed import turned, with_rule, without_rule
from pileduel.closing import follows, machine
from pileduel.errors import NoFit
from pileduel.games import rules_at
from pileduel.joined import both, either
from pileduel.otherplan import plan_keeps, plan_of
from pileduel.papermaker import paper_for
from pileduel.papers import paper_holds
from pileduel.play import behind, behind_all, rules_here
from pileduel.readings import readings
from pileduel.runs import least_cost, rule_to_go, run_behind, run_cost, run_from
from pileduel.sayings import is_in, reads
from pileduel.sets import sets_come_up, stands_reading
from pileduel.ways import way_from
from pileduel.within import brings_within, least_moves
from plain import PlainPlay, samples, some_saying, wider

CASES = [(GAME, SAYING), (WIDE_GAME, WIDE_SAYING)] + samples(100) + list(RICH)


def stands(game, height):
    return itertools.product(range(len(game[0])), piles(len(game[1]), height))


def read_stands(game, saying, most=200):
    arrows = machine(game, saying, most)
    return {here for here in stands(game, 3) if reads(arrows, saying[2], *here)}


class JustOneOfTwoTest(unittest.TestCase):
    def test_a_run_or_a_plan(self):
        ended = {True: 0, False: 0}
        for game, saying in CASES:
            paper = paper_for(game, saying)
            duel = Duel(self, game, saying, paper)
            arrows = machine(game, saying)
            for place, pile in stands(game, 2):
                run = run_from(saying, paper, place, pile)
                self.assertIs(run is not None, reads(arrows, saying[2], place, pile))
                self.assertIs(run is not None, least_cost(saying, paper, place, pile) is not None)
                if run is None:
                    duel.other_keeps_out(place, pile)
                elif run_cost(paper, run) <= 12:
                    duel.first_comes_there(place, pile, run)
                ended[run is None] += 1
        self.assertGreater(min(ended.values()), 300)


class Duel:
    """Both hands by what is told them, their adversary by each of its rules."""

    def __init__(self, case, game, saying, paper):
        self.case = case
        self.game = game
        self.saying = saying
        self.paper = paper
        self.sets = [one for one, pile in sets_come_up(game, paper, saying[2])]
        plan = plan_of(game, saying, paper)
        case.assertIs(plan_keeps(game, saying, paper, plan), True)
        self.plan = {row[:3]: row[3] for row in plan}

    def first_comes_there(self, place, pile, run):
        """Through each answer, within the run's cost, which falls with each move."""
        cost = run_cost(self.paper, run)
        if not pile or self.paper[run[0][0][1]][4] == ():
            self.case.assertTrue(is_in(self.saying, place, pile))
            return
        self.case.assertGreater(cost, 0)
        rules = rules_here(self.game, place, pile)
        if self.game[0][place][1] == 0:
            rules = [rule_to_go(self.game, self.paper, place, run)]
        self.case.assertTrue(rules)
        for rule in rules:
            further = run_behind(self.game, self.paper, run, rule)
            self.case.assertLess(run_cost(self.paper, further), cost)
            self.first_comes_there(*behind(self.game, place, pile, rule), further)

    def other_keeps_out(self, place, pile):
        """Through each move of the first's, for as long as new stands come, up to some."""
        left = [(place, pile)]
        for here in left:
            self.case.assertFalse(is_in(self.saying, *here))
            rules = rules_here(self.game, *here)
            if rules and self.game[0][here[0]][1] == 1:
                rest = stands_reading(self.paper, self.saying[2], here[1][1:])
                rules = [self.plan[(self.sets.index(rest), here[0], here[1][0])]]
                self.case.assertIn(rules[0], rules_here(self.game, *here))
            for rule in rules:
                further = behind(self.game, *here, rule)
                if len(left) < 40 and further not in left:
                    left.append(further)


class PapersTest(unittest.TestCase):
    def test_a_paper_let_by_reads_just_the_same(self):
        for game, saying in CASES[:60]:
            told = read_stands(game, saying)
            paper = paper_for(game, saying)
            for other in (paper, paper + paper, dearer(paper, 4), wider(game, paper)):
                self.assertIs(paper_holds(game, saying, other), True)
                self.assertEqual({here for here in stands(game, 3) if reads(other, saying[2], *here)}, told)


class PlainPlayTest(unittest.TestCase):
    def test_brought_about_is_read_and_read_is_brought_about_within_its_cost(self):
        seen = {}
        for game, saying in CASES:
            paper = paper_for(game, saying)
            play = PlainPlay(game, saying)
            for place, pile in stands(game, 2):
                cost = least_cost(saying, paper, place, pile)
                moves = least_moves(game, saying, place, pile)
                self.assertEqual(moves, play.least(place, pile, 6))
                if moves is not None:
                    self.assertIsNotNone(cost)
                    self.assertLessEqual(moves, cost)
                if cost is not None and cost <= 6:
                    self.assertIs(brings_within(game, saying, place, pile, cost), True)
                seen[(moves, cost)] = True
        # Also where the cost is more than the moves that it takes.
        self.assertTrue([pair for pair in seen if None not in pair and pair[0] < pair[1]])
        self.assertGreater(len(seen), 15)


class RulesMoreAndFewerTest(unittest.TestCase):
    def test_with_a_rule_more_of_the_firsts_nothing_is_lost(self):
        won = 0
        for game, saying in samples(300):
            told = read_stands(game, saying)
            for place, x, q in itertools.product(range(len(game[0])), (0,), range(len(game[0]))):
                if game[0][place][1] == 0:
                    for w in ((), (0,), (len(game[1]) - 1, 0)):
                        won += self.nothing_lost(told, game, saying, with_rule, (place, x, q, w))
        self.assertGreater(won, 20)

    def test_with_one_fewer_of_the_others_neither(self):
        won = 0
        for game, saying in samples(300):
            told = read_stands(game, saying)
            tops = [rule[:2] for rule in game[2]]
            for k, top in enumerate(tops):
                if game[0][top[0]][1] == 1 and tops.count(top) == 2:
                    won += self.nothing_lost(told, game, saying, without_rule, k)
        self.assertGreater(won, 20)

    def nothing_lost(self, told, game, saying, change, *handed):
        try:
            other = change(game, *handed)
        except NoFit:
            return 0
        more = read_stands(other, saying)
        self.assertLessEqual(told, more)
        return told != more

    def test_where_none_stays_there_something_may_be_lost(self):
        game = ((("p", 1),), ("x",), ((0, 0, 0, ()),))
        self.assertEqual(len(read_stands(game, (0, (), (0,)))), 4)
        self.assertEqual(read_stands(without_rule(game, 0), (0, (), (0,))), {(0, ())})

    def test_hands_exchanged_at_places_without_rules(self):
        # Where no place of a hand has a rule, the places' hands don't count.
        game = ((("p", 0), ("q", 1)), ("x",), ())
        for saying in ((0, (), (0,)), (1, ((0, 0, (2,)), (2, 0, (2,))), (1, 2))):
            self.assertEqual(read_stands(turned(game), saying), read_stands(game, saying))


class JoinedTest(unittest.TestCase):
    def test_just_what_the_joining_tells_is_so(self):
        for number, (game, one) in enumerate(samples(60)):
            other = some_saying(900 + number, game)
            for here in stands(game, 3):
                answers = (is_in(one, *here), is_in(other, *here))
                self.assertIs(is_in(either(game, one, other), *here), any(answers))
                self.assertIs(is_in(both(game, one, other), *here), all(answers))


class AgainTest(unittest.TestCase):
    def test_a_machines_own_set_is_brought_about_from_just_that_set(self):
        seen = {}
        for game, saying in CASES:
            told = read_stands(game, saying)
            again = as_saying(game, saying, machine(game, saying))
            self.assertEqual({here for here in stands(game, 3) if is_in(again, *here)}, told)
            self.assertEqual(read_stands(game, again, 1000), told)
            paper = paper_for(game, again, 1000)
            # There already, wherever it is brought about at all.
            for here in stands(game, 2):
                self.assertEqual(least_cost(again, paper, *here), 0 if here in told else None)
                self.assertEqual(least_moves(game, again, *here), 0 if here in told else None)
            seen[len(told)] = True
        self.assertGreater(len(seen), 20)

    def test_of_joined_sayings(self):
        for number, (game, one) in enumerate(samples(40)):
            other = some_saying(300 + number, game)
            for saying in (either(game, one, other), both(game, one, other)):
                again = as_saying(game, saying, machine(game, saying, 1000))
                self.assertEqual(read_stands(game, again, 1000), read_stands(game, saying, 1000))


class AloneTest(unittest.TestCase):
    def test_costs_tell_the_least_moves_by_a_way_that_is_told(self):
        seen = {}
        for game, saying in samples(60, [0]) + samples(60, [0, 0]) + samples(60, [0, 0, 0]):
            paper = paper_for(game, saying)
            single = all(len(arrow[2]) <= 1 for arrow in saying[1])
            for place, pile in stands(game, 2):
                cost = least_cost(saying, paper, place, pile)
                moves = least_moves(game, saying, place, pile)
                self.assertEqual(moves, cost if cost is not None and cost <= 6 else None)
                if single and cost is not None:
                    way = way_from(game, saying, place, pile, 200)
                    self.assertEqual(len(way), cost)
                    self.assertTrue(is_in(saying, *behind_all(game, place, pile, way)))
                elif single:
                    self.assertIsNone(way_from(game, saying, place, pile))
                seen[(single, cost)] = True
        self.assertGreater(len(seen), 10)


class ListsTest(unittest.TestCase):
    def test_lists_told_may_be_changed(self):
        game, saying = RICH[0]
        arrows = machine(game, saying)
        for ask in (
            lambda: rules_at(game, 0, 1), lambda: rules_here(game, 0, (1,)), lambda: readings(arrows, 0, (1, 2)),
            lambda: follows(game, arrows), lambda: sets_come_up(game, arrows, saying[2]),
        ):
            told = ask()
            self.assertIs(type(told), list)
            before = repr(told)
            told.append(told.pop(0))
            told.append(None)
            self.assertEqual(repr(ask()), before)
            told.clear()
            self.assertEqual(repr(ask()), before)

    def test_what_is_told_else_holds_no_list(self):
        for game, saying in CASES[:20] + list(RICH):
            paper = paper_for(game, saying)
            told = [
                machine(game, saying), paper, plan_of(game, saying, paper), as_saying(game, saying, machine(game, saying)),
                either(game, saying, saying), both(game, saying, saying),
            ]
            told += [run_from(saying, paper, *here) for here in stands(game, 2)]
            for value in told:
                self.assertNotIn("[", repr(value))
                self.assertNotIn("{", repr(value))
                self.assertIsInstance(value, (tuple, type(None)))


if __name__ == "__main__":
    unittest.main()
