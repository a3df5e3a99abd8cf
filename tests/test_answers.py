import copy
import unittest

from changes import piles, with_cost
from examples import GAME, PAPER, RICH, SAYING, WIDE_GAME, WIDE_PAPER, WIDE_SAYING
from pileduel.answers import all_answers
from pileduel.papermaker import paper_for
from pileduel.papers import paper_holds
from pileduel.play import behind, behind_all, rules_here
from pileduel.runs import rule_to_go, run_behind, run_cost, run_from
from pileduel.sayings import is_in
from plain import samples

# The other takes a letter off and stays, or hands over; the first takes one off and hands over.
COUNTING = ((("p", 0), ("q", 1)), ("x",), ((1, 0, 1, ()), (1, 0, 0, ()), (0, 0, 1, ())))
# The other's two answers lead to the same again, in as many moves.
DOUBLING = ((("p", 0), ("q", 1)), ("x", "y", "z"), ((1, 0, 0, (1,)), (1, 0, 0, (2,)), (0, 1, 1, ()), (0, 2, 1, ())))


def all_plays(game, paper, place, pile, run):
    """Each play from a run, as a tuple of rules."""
    if not run or paper[run[0][0][1]][4] == ():
        return [()]
    rules = [rule_to_go(game, paper, place, run)] if game[0][place][1] == 0 else rules_here(game, place, pile)
    plays = []
    for rule in rules:
        further, beneath = behind(game, place, pile, rule)
        rest = all_plays(game, paper, further, beneath, run_behind(game, paper, run, rule))
        plays += [(rule,) + play for play in rest]
    return plays


class AnswersCase(unittest.TestCase):
    def told(self, game, saying, place, pile, pair):
        paper = paper_for(game, saying)
        run = run_from(saying, paper, place, pile)
        self.assertEqual(repr(all_answers(game, paper, place, run)), repr(pair), (place, pile))


class AnswersTest(AnswersCase):
    def test_no_move_at_all(self):
        self.told(GAME, SAYING, 0, (), (0, 1))
        self.told(GAME, SAYING, 0, (1, 0), (0, 1))
        self.told(WIDE_GAME, WIDE_SAYING, 1, (0, 1, 0), (0, 1))
        self.assertEqual(all_answers(GAME, PAPER, 0, ()), (0, 1))

    def test_a_line_of_the_firsts_moves_alone(self):
        self.told(GAME, SAYING, 0, (0,), (1, 1))
        self.told(GAME, SAYING, 0, (0, 0, 0), (3, 1))
        self.told(GAME, SAYING, 0, (0, 1), (3, 1))
        self.told(GAME, SAYING, 0, (0, 0, 2, 1), (3, 1))

    def test_two_answers_of_unlike_lengths(self):
        self.told(GAME, SAYING, 1, (0,), (2, 2))
        self.told(GAME, SAYING, 1, (1,), (4, 2))
        self.told(GAME, SAYING, 1, (1, 0), (5, 2))
        self.told(GAME, SAYING, 1, (0, 1, 0), (2, 2))

    def test_one_answer_alone(self):
        game = (GAME[0], ("x",), ((1, 0, 0, ()), (0, 0, 1, ())))
        for height in range(7):
            self.told(game, (0, (), (0, 1)), 1, (0,) * height, (height, 1))

    def test_how_many_plays_there_are_in_all(self):
        many = (1, 2, 3, 5, 8, 13, 21)
        for height in range(7):
            self.told(COUNTING, (0, (), (0, 1)), 1, (0,) * height, (height, many[height]))

    def test_plays_that_come_to_the_same_are_counted_each(self):
        for height in range(5):
            self.told(DOUBLING, (0, (), (1,)), 1, (0,) * height, (2 * height, 2 ** height))

    def test_more_plays_than_can_be_gone_through_one_by_one(self):
        # Somewhat beyond the bound, told all the same.
        self.told(DOUBLING, (0, (), (1,)), 1, (0,) * 60, (120, 2 ** 60))

    def test_the_most_moves_are_fewer_than_the_cost_of_a_dear_paper(self):
        paper = with_cost(PAPER, 7, 6)
        self.assertIs(paper_holds(GAME, SAYING, paper), True)
        run = run_from(SAYING, paper, 1, (1, 0))
        self.assertEqual(run_cost(paper, run), 7)
        self.assertEqual(all_answers(GAME, paper, 1, run), (5, 2))

    def test_another_papers_choice(self):
        # The first hands over and the other answers, in the place of one move.
        paper = PAPER + ((0, 0, (0,), 3, ((6, 6, ()),)),)
        self.assertEqual(all_answers(GAME, paper, 0, (((0, 8),),)), (3, 2))
        self.assertEqual(all_answers(GAME, paper, 0, (((0, 3),),)), (1, 1))

    def test_play_by_play(self):
        seen = 0
        for game, saying in [(GAME, SAYING), (WIDE_GAME, WIDE_SAYING)] + samples(150) + list(RICH):
            paper = paper_for(game, saying)
            for pile in piles(len(game[1]), 3):
                for place in range(len(game[0])):
                    run = run_from(saying, paper, place, pile)
                    if run is not None and run_cost(paper, run) <= 8:
                        seen += self.play_by_play(game, saying, paper, place, pile, run)
        self.assertGreater(seen, 150)

    def play_by_play(self, game, saying, paper, place, pile, run):
        plays = all_plays(game, paper, place, pile, run)
        self.assertEqual(len(plays), len(set(plays)))
        for play in plays:
            self.assertTrue(is_in(saying, *behind_all(game, place, pile, play)))
        moves = max(len(play) for play in plays)
        self.assertEqual(all_answers(game, paper, place, run), (moves, len(plays)), (game, saying, place, pile))
        self.assertLessEqual(moves, run_cost(paper, run))
        return len(plays) > 1


class HandedInTest(unittest.TestCase):
    def test_what_is_handed_in_stays_as_it_was(self):
        handed = copy.deepcopy((GAME, PAPER, 1, (((1, 7),), ((0, 3),))))
        all_answers(*handed)
        self.assertEqual(repr(handed), repr((GAME, PAPER, 1, (((1, 7),), ((0, 3),)))))

    def test_asked_again_whatever_was_asked_between(self):
        for turn in range(3):
            self.assertEqual(all_answers(GAME, PAPER, 1, (((1, 7),), ((0, 3),))), (5, 2))
            self.assertEqual(all_answers(WIDE_GAME, WIDE_PAPER, 0, (((0, 5),),)), (1, 1))
            self.assertEqual(all_answers(GAME, PAPER, 1, (((1, 6),),)), (2, 2))


if __name__ == "__main__":
    unittest.main()
