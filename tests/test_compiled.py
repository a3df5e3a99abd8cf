import copy
import itertools
import unittest

from pileduel.closing import machine
from pileduel.compiled import begin_of, game_of, saying_of
from pileduel.gametexts import read_game, show_game
from pileduel.names import is_name
from pileduel.papermaker import paper_for
from pileduel.papers import paper_holds
from pileduel.play import behind, rules_here
from pileduel.programs import look_program, run_program
from pileduel.runs import least_cost
from pileduel.sayings import is_in, reads
from pileduel.within import least_moves
from plain import PlainPlay, some_program, some_runs

BACK = ("back",)
MARK = ("mark",)

# Points: 0 ask, 1 mark, 2 the end.
ASKING = (0, ((("ask", 0, 1), MARK),))
# Points: 0 call, 1 chance, 2 the end; 3 chance, 4 back, 5 the end.
CALLING = (0, ((("call", 1), ("chance", 0, 1)), (("chance", 0, 1), BACK)))
# Points: 0 set, 1 if, 2 mark, 3 chance, 4 the end.
SWITCHED = (1, ((("set", 1), ("if", 2, 3), MARK, ("chance", 0, 3)),))


def points_of(program):
    """For each point its procedure and its step; a procedure's end has none."""
    return [(procedure, step) for procedure in program[1] for step in procedure + (None,)]


def firsts_of(program):
    """The number of each procedure's first point."""
    return [sum(len(ahead) + 1 for ahead in program[1][:k]) for k in range(len(program[1]))]


def plain_rules(program):
    """All rules, place by place and point by point."""
    told = set()
    steps = [step for procedure, step in points_of(program)]
    firsts = firsts_of(program)
    hands = [1 if step and step[0] == "chance" else 0 for step in steps]
    for answer, hand, point in itertools.product(range(program[0] + 1), (0, 1), range(len(steps))):
        place = 2 * answer + hand
        if hand != hands[point]:
            told.add((place, point, 2 * answer + hands[point], (point,)))
            continue
        first = max(one for one in firsts if one <= point)
        word, *numbers = steps[point] or BACK
        if word in ("ask", "chance"):
            told.update((place, point, 2 * answer + hands[first + to], (first + to,)) for to in numbers)
        elif word == "if":
            to = first + numbers[1 - answer]
            told.add((place, point, 2 * answer + hands[to], (to,)))
        elif word == "set":
            told.add((place, point, 2 * numbers[0] + hands[point + 1], (point + 1,)))
        elif word == "call":
            to = firsts[numbers[0]]
            told.add((place, point, 2 * answer + hands[to], (to, point + 1)))
        elif word == "back":
            told.add((place, point, 2 * answer, ()))
    return tuple(sorted(told))


def hands(game):
    return [hand for name, hand in game[0]]


class GameOfTest(unittest.TestCase):
    def told(self, program, letters, rules, arrows, begin):
        game = game_of(program)
        self.assertEqual(hands(game), [0, 1, 0, 1][:2 * program[0] + 2])
        self.assertEqual(len(game[1]), letters)
        self.assertEqual(repr(game[2]), repr(rules))
        self.assertEqual(repr(saying_of(program)), repr((0, arrows, ())))
        self.assertEqual(repr(begin_of(program)), repr(begin))

    def test_an_ordinary_one_without_a_switch(self):
        self.told(ASKING, 3, (
            (0, 0, 0, (0,)), (0, 0, 0, (1,)), (0, 2, 0, ()), (1, 0, 0, (0,)), (1, 1, 0, (1,)), (1, 2, 0, (2,)),
        ), ((0, 1, ()),), (0, (0,)))

    def test_calls_and_chances(self):
        # Behind the call there is a chance; the called procedure's first step is one: at the other's place.
        self.told(CALLING, 6, (
            (0, 0, 1, (3, 1)), (0, 1, 1, (1,)), (0, 2, 0, ()), (0, 3, 1, (3,)), (0, 4, 0, ()), (0, 5, 0, ()),
            (1, 0, 0, (0,)), (1, 1, 0, (0,)), (1, 1, 1, (1,)), (1, 2, 0, (2,)), (1, 3, 0, (4,)), (1, 3, 1, (3,)),
            (1, 4, 0, (4,)), (1, 5, 0, (5,)),
        ), (), (0, (0,)))

    def test_with_a_switch(self):
        self.told(SWITCHED, 5, (
            (0, 0, 2, (1,)), (0, 1, 1, (3,)), (0, 3, 1, (3,)), (0, 4, 0, ()),
            (1, 0, 0, (0,)), (1, 1, 0, (1,)), (1, 2, 0, (2,)), (1, 3, 0, (0,)), (1, 3, 1, (3,)), (1, 4, 0, (4,)),
            (2, 0, 2, (1,)), (2, 1, 2, (2,)), (2, 3, 3, (3,)), (2, 4, 2, ()),
            (3, 0, 2, (0,)), (3, 1, 2, (1,)), (3, 2, 2, (2,)), (3, 3, 2, (0,)), (3, 3, 3, (3,)), (3, 4, 2, (4,)),
        ), ((0, 2, ()), (2, 2, ())), (0, (0,)))

    def test_a_switch_that_is_never_used(self):
        self.told((1, ((MARK,),)), 2, (
            (0, 1, 0, ()), (1, 0, 0, (0,)), (1, 1, 0, (1,)), (2, 1, 2, ()), (3, 0, 2, (0,)), (3, 1, 2, (1,)),
        ), ((0, 0, ()), (2, 0, ())), (0, (0,)))

    def test_a_chance_ahead(self):
        self.told((0, ((("chance", 1, 0), BACK),)), 3, (
            (0, 0, 1, (0,)), (0, 1, 0, ()), (0, 2, 0, ()), (1, 0, 0, (1,)), (1, 0, 1, (0,)), (1, 1, 0, (1,)), (1, 2, 0, (2,)),
        ), (), (1, (0,)))
        self.assertEqual(begin_of((1, ((("chance", 0, 0),),))), (1, (0,)))
        # A chance elsewhere doesn't count.
        self.assertEqual(begin_of((0, ((BACK, ("chance", 0, 0)), (("chance", 0, 0),)))), (0, (0,)))

    def test_a_chance_behind_a_back(self):
        # Behind the back it is the first's place, and one rule hands over.
        program = (0, ((("call", 1), ("chance", 0, 1)), (BACK,)))
        game = game_of(program)
        here = begin_of(program)
        for told in ((0, (3, 1)), (0, (1,)), (1, (1,))):
            rules = rules_here(game, *here)
            self.assertEqual(len(rules), 1)
            here = behind(game, *here, rules[0])
            self.assertEqual(here, told)
        self.assertEqual([behind(game, *here, rule) for rule in rules_here(game, *here)], [(0, (0,)), (1, (1,))])

    def test_the_hand_of_the_point_gone_on_at(self):
        # From each word to a chance, which is point 1 here, and from a chance to an ask.
        for step in (("ask", 1, 1), ("if", 1, 1), ("set", 0)):
            game = game_of((1, ((step, ("chance", 0, 0)),)))
            self.assertIn((0, 0, 1, (1,)), game[2])
            self.assertIn((1, 1, 0, (0,)), game[2])

    def test_both_choices_alike_are_one_rule(self):
        for word, place in (("ask", 0), ("chance", 1)):
            game = game_of((0, (((word, 1, 1), MARK),)))
            self.assertEqual([rule for rule in game[2] if rule[:2] == (place, 0)], [(place, 0, 0, (1,))])

    def test_a_set_to_each_answer(self):
        for answer in (0, 1):
            game = game_of((1, ((("set", answer), ("chance", 0, 0)),)))
            for place in (0, 2):
                self.assertEqual([rule for rule in game[2] if rule[:2] == (place, 0)], [(place, 0, 2 * answer + 1, (1,))])

    def test_an_end_whatever_the_last_step_is(self):
        for step in (BACK, MARK, ("ask", 0, 0), ("chance", 0, 0), ("call", 0)):
            game = game_of((0, ((step,),)))
            self.assertEqual(len(game[1]), 2)
            self.assertEqual([rule for rule in game[2] if rule[1] == 1], [(0, 1, 0, ()), (1, 1, 0, (1,))])

    def test_a_mark_has_no_rule_at_its_own_hands_place(self):
        for switches in (0, 1):
            program = (switches, ((BACK, MARK), (MARK,)))
            game = game_of(program)
            for point, answer in itertools.product((1, 3), range(switches + 1)):
                self.assertEqual(rules_here(game, 2 * answer, (point, 0)), [])
                handed = [game[2][rule] for rule in rules_here(game, 2 * answer + 1, (point, 0))]
                self.assertEqual(handed, [(2 * answer + 1, point, 2 * answer, (point,))])
            self.assertEqual(saying_of(program)[1], tuple((2 * one, point, ()) for one in range(switches + 1) for point in (1, 3)))

    def test_names(self):
        full = (("ask", 0, 1), ("chance", 2, 3), MARK, BACK)
        for program in (ASKING, CALLING, SWITCHED, (1, (full,) * 3), (0, (full,) * 3)):
            game = game_of(program)
            names = [name for name, hand in game[0]]
            self.assertEqual(len(set(names)), len(names))
            self.assertEqual(len(set(game[1])), len(game[1]))
            self.assertTrue(all(is_name(name) for name in names + list(game[1])))
            self.assertEqual(repr(read_game(show_game(game))), repr(game))
        self.assertEqual(len(game_of((1, (full,) * 3))[1]), 15)

    def test_somewhat_beyond_the_bounds(self):
        program = (0, (((("ask", 0, 7),) * 8),) * 5)
        game = game_of(program)
        self.assertEqual(len(set(game[1])), 45)
        self.assertEqual(game[2], plain_rules(program))

    def test_as_gone_through_point_by_point(self):
        for seed in range(400):
            program = some_program(seed)
            self.assertIs(look_program(program), True)
            game = game_of(program)
            points = points_of(program)
            self.assertEqual(len(game[1]), len(points))
            self.assertEqual(hands(game), [0, 1] * (1 + program[0]))
            self.assertEqual(repr(game[2]), repr(plain_rules(program)))
            marks = [number for number, (procedure, step) in enumerate(points) if step == MARK]
            arrows = tuple((2 * answer, mark, ()) for answer in range(program[0] + 1) for mark in marks)
            self.assertEqual(repr(saying_of(program)), repr((0, arrows, ())))


class PlaysTest(unittest.TestCase):
    def test_runs_go_as_plays_do(self):
        seen = {}
        for program, choices, most in some_runs(400):
            told = run_program(program, choices, most)
            self.assertEqual(self.played(program, choices, most), told)
            seen[told[0]] = seen.get(told[0], 0) + 1
        self.assertGreater(min(seen.values()), 80)

    def played(self, program, choices, most):
        """The play of the game, its moves counted where a step of the program is done."""
        game, saying = game_of(program), saying_of(program)
        points = points_of(program)
        firsts = firsts_of(program)
        here, steps, left = begin_of(program), 0, list(choices)
        while here[1]:
            point = here[1][0]
            step = points[point][1]
            rules = rules_here(game, *here)
            if hands(game)[here[0]] != (1 if step and step[0] == "chance" else 0):
                self.assertEqual([behind(game, *here, rule)[1] for rule in rules], [here[1]])
                here = behind(game, *here, rules[0])
                continue
            if step is not None and steps == most:
                return ("more", steps)
            if is_in(saying, *here):
                self.assertEqual((step, rules), (MARK, []))
                return ("marked", steps + 1)
            if step is not None and step[0] in ("ask", "chance"):
                if not left:
                    return ("lacks", steps)
                self.assertEqual(len(rules), len(set(step[1:])))
                top = max(first for first in firsts if first <= point) + step[1 + left.pop(0)]
                rules = [rule for rule in rules if game[2][rule][3] == (top,)]
            self.assertEqual(len(rules), 1)
            here = behind(game, *here, rules[0])
            steps += step is not None
        self.assertEqual(here[0] % 2, 0)
        return ("over", steps)

    def test_who_brings_a_mark_about(self):
        told = {True: 0, False: 0}
        for seed in range(300):
            program = some_program(seed)
            game, saying = game_of(program), saying_of(program)
            paper = paper_for(game, saying)
            self.assertIs(paper_holds(game, saying, paper), True)
            cost = least_cost(saying, paper, *begin_of(program))
            self.assertIs(cost is not None, reads(machine(game, saying), saying[2], *begin_of(program)))
            # A step takes a move at least, and the mark itself none.
            forced = self.forced(program, 0, ((0, 0),), 8)
            if forced:
                self.assertIsNotNone(cost)
            if cost is not None and cost <= 7:
                self.assertTrue(forced)
            told[forced] += 1
        self.assertGreater(min(told.values()), 40)

    def forced(self, program, switch, spots, most):
        """Whether the first brings a mark about within so many steps more; spots: where calls go on, the innermost last."""
        while spots and spots[-1][1] == len(program[1][spots[-1][0]]):
            spots = spots[:-1]
        if not spots or most == 0:
            return False
        procedure, at = spots[-1]
        word, *numbers = program[1][procedure][at]
        further = spots[:-1] + ((procedure, at + 1),)
        if word in ("back", "mark"):
            return word == "mark" or self.forced(program, switch, spots[:-1], most - 1)
        if word == "set":
            return self.forced(program, numbers[0], further, most - 1)
        if word == "call":
            return self.forced(program, switch, further + ((numbers[0], 0),), most - 1)
        if word == "if":
            numbers = [numbers[1 - switch]]
        answers = [self.forced(program, switch, spots[:-1] + ((procedure, to),), most - 1) for to in numbers]
        return all(answers) if word == "chance" else any(answers)


class PlainAnswersTest(unittest.TestCase):
    def test_moves_in_a_programs_game(self):
        # Ask, call, chance: three moves, and the mark's place is the first's.
        program = (0, ((("ask", 0, 1), ("call", 1), BACK), (("chance", 1, 1), MARK)))
        self.assertEqual(least_moves(game_of(program), saying_of(program), *begin_of(program)), 3)
        for seed in range(60):
            program = some_program(seed)
            play = PlainPlay(game_of(program), saying_of(program))
            moves = least_moves(game_of(program), saying_of(program), *begin_of(program))
            self.assertEqual(moves, play.least(*begin_of(program), 6))


class HandedInTest(unittest.TestCase):
    def test_what_is_handed_in_stays_as_it_was(self):
        for program in (ASKING, CALLING, SWITCHED):
            handed = copy.deepcopy(program)
            game_of(handed)
            saying_of(handed)
            begin_of(handed)
            self.assertEqual(repr(handed), repr(program))

    def test_asked_again_whatever_was_asked_between(self):
        first = [repr(game_of(program)) for program in (ASKING, CALLING, SWITCHED)]
        for turn in range(2):
            self.assertEqual([repr(game_of(program)) for program in (ASKING, CALLING, SWITCHED)], first)
            self.assertEqual(saying_of(ASKING), (0, ((0, 1, ()),), ()))
            self.assertEqual(begin_of(CALLING), (0, (0,)))


if __name__ == "__main__":
    unittest.main()
