import copy
import itertools
import unittest

from changes import piles
from examples import GAME, RICH, SAYING
from pileduel.within import brings_within, least_moves
from plain import PlainPlay, samples

# One letter: p takes letters off, one each move.
TAKING = ((("p", 0),), ("x",), ((0, 0, 0, ()),))
TAKEN = (0, (), (0,))

# p chooses among three rules; only the last of them leads to r, where the saying is.
CHOOSING = ((("p", 0), ("q", 0), ("r", 0)), ("x", "y"), ((0, 0, 0, (0,)), (0, 0, 1, (0,)), (0, 0, 2, (0,))))
# The same with q as the other's answers at y: both lead to r, or one of them to p, or none is there.
ANSWERING = (
    ((("p", 0), ("q", 1), ("r", 0)), ("x", "y"), ((0, 0, 1, (1,)), (1, 1, 2, (0,)), (1, 1, 2, (0, 0)))),
    ((("p", 0), ("q", 1), ("r", 0)), ("x", "y"), ((0, 0, 1, (1,)), (1, 1, 2, (0,)), (1, 1, 0, (0,)))),
    ((("p", 0), ("q", 1), ("r", 0)), ("x", "y"), ((0, 0, 1, (1,)),)),
)
AT_R = (0, ((2, 0, ()),), ())


class CountingSaying(tuple):
    """A saying that counts how often its arrows are asked for: once for each look at where one stands."""

    asked = 0

    def __getitem__(self, at):
        if at == 1:
            CountingSaying.asked += 1
        return tuple.__getitem__(self, at)


class WithinCase(unittest.TestCase):
    def told(self, game, saying, place, pile, least):
        self.assertEqual(repr(least_moves(game, saying, place, pile)), repr(least), (place, pile))
        for k in range(7):
            answer = least is not None and least <= k
            self.assertIs(brings_within(game, saying, place, pile, k), answer, (place, pile, k))


class WithinTest(WithinCase):
    def test_where_one_stands_already(self):
        self.told(TAKING, TAKEN, 0, (), 0)
        self.told(CHOOSING, AT_R, 2, (0,), 0)
        self.told(CHOOSING, AT_R, 2, (0, 1, 1, 0, 0, 1), 0)
        # At the other's place, too, whatever rules are there.
        self.told(ANSWERING[1], (0, ((1, 1, ()),), ()), 1, (1,), 0)
        self.told(ANSWERING[2], (0, ((1, 0, ()),), ()), 1, (0,), 0)

    def test_as_many_moves_as_letters(self):
        for height in range(7):
            self.told(TAKING, TAKEN, 0, (0,) * height, height)

    def test_none_where_it_takes_seven_moves(self):
        self.told(TAKING, TAKEN, 0, (0,) * 7, None)
        self.assertIs(brings_within(TAKING, TAKEN, 0, (0,) * 7, 7), True)
        # Each y takes three moves: six and none of nine.
        game = (TAKING[0], ("x", "y"), TAKING[2] + ((0, 1, 0, (0, 0)),))
        self.told(game, TAKEN, 0, (1, 1), 6)
        self.told(game, TAKEN, 0, (0, 1, 1), None)
        self.told(game, TAKEN, 0, (1, 1, 1), None)

    def test_none_where_it_is_never(self):
        self.told(TAKING, (0, (), ()), 0, (0, 0), None)
        self.told(CHOOSING, AT_R, 1, (0,), None)
        self.told(CHOOSING, AT_R, 2, (1,), None)

    def test_one_of_several_rules_of_the_firsts(self):
        self.told(CHOOSING, AT_R, 0, (0,), 1)
        for rules in itertools.permutations(CHOOSING[2]):
            self.told((CHOOSING[0], CHOOSING[1], rules), AT_R, 0, (0, 1), 1)
        for gone in range(3):
            rules = CHOOSING[2][:gone] + CHOOSING[2][gone + 1:]
            self.told((CHOOSING[0], CHOOSING[1], rules), AT_R, 0, (0,), None if gone == 2 else 1)

    def test_the_shorter_of_two_ways(self):
        # x is taken off at once, or by way of y.
        for rules in itertools.permutations(((0, 0, 0, (1,)), (0, 1, 0, ()), (0, 0, 0, ()))):
            self.told((TAKING[0], ("x", "y"), rules), TAKEN, 0, (0, 0), 2)

    def test_all_rules_of_the_others(self):
        self.told(ANSWERING[0], AT_R, 1, (1,), 1)
        self.told(ANSWERING[0], AT_R, 0, (0,), 2)

    def test_not_all_rules_of_the_others(self):
        self.told(ANSWERING[1], AT_R, 1, (1,), None)
        self.told(ANSWERING[1], AT_R, 0, (0,), None)
        turned = ANSWERING[1][:2] + (ANSWERING[1][2][:1] + ANSWERING[1][2][:0:-1],)
        self.told(turned, AT_R, 1, (1,), None)

    def test_the_longest_of_the_others_answers_counts(self):
        # The other takes x off, or puts two more; p takes them off, one by one.
        game = ((("p", 0), ("q", 1)), ("x",), ((0, 0, 0, ()), (1, 0, 0, ()), (1, 0, 0, (0, 0))))
        self.told(game, TAKEN, 1, (0,), 3)
        self.told(game, TAKEN, 1, (0, 0, 0), 5)
        self.told(game, TAKEN, 1, (0, 0, 0, 0), 6)
        self.told(game, TAKEN, 1, (0, 0, 0, 0, 0), None)

    def test_the_others_place_without_a_rule(self):
        self.told(ANSWERING[2], AT_R, 1, (1,), None)
        self.told(ANSWERING[2], AT_R, 0, (0,), None)
        self.told(ANSWERING[0], AT_R, 1, (0,), None)

    def test_an_empty_pile(self):
        for game in (CHOOSING,) + ANSWERING:
            for place in range(3):
                self.told(game, AT_R, place, (), None)
                self.told(game, (0, (), (place,)), place, (), 0)
                self.told(game, (0, (), ((place + 1) % 3,)), place, (), None)

    def test_beyond_the_greatest_k(self):
        self.assertIs(brings_within(TAKING, TAKEN, 0, (0,) * 6, 9), True)
        self.assertIs(brings_within(TAKING, (0, (), ()), 0, (0,) * 6, 9), False)

    def test_move_by_move(self):
        seen = {}
        for game, saying in [(GAME, SAYING)] + samples(200) + list(RICH):
            play = PlainPlay(game, saying)
            for place, pile in itertools.product(range(len(game[0])), piles(len(game[1]), 3)):
                least = play.least(place, pile, 6)
                self.told(game, saying, place, pile, least)
                seen[(game[0][place][1], least)] = True
        self.assertGreater(len(seen), 12)


class AskedOnceTest(unittest.TestCase):
    # At each stand three rules: without keeping what is known three to the sixth stands would be asked.
    GAME = ((("p", 0), ("q", 0), ("r", 0)), ("x",), tuple((p, 0, q, (0,)) for p in range(3) for q in range(3))[:8])
    # Of one letter, put on and taken off: what lies beneath differs by its height alone.
    PILED = ((("p", 0), ("q", 0)), ("x",), tuple((p, 0, q, w) for p in (0, 1) for q in (0, 1) for w in ((), (0, 0)))[:6])

    def asked(self, function, *rest):
        CountingSaying.asked = 0
        function(*rest)
        return CountingSaying.asked

    def test_within(self):
        saying = CountingSaying((0, (), ()))
        # The place itself, and with each k less three places at most.
        self.assertLessEqual(self.asked(brings_within, self.GAME, saying, 0, (0,), 6), 1 + 6 * 3)
        self.assertLessEqual(self.asked(brings_within, self.PILED, saying, 0, (0,) * 6, 6), 2 * (1 + 2 + 3 + 4 + 5 + 6 + 7))

    def test_least(self):
        saying = CountingSaying((0, (), ()))
        # For each of k's seven values three places at most.
        self.assertLessEqual(self.asked(least_moves, self.GAME, saying, 0, (0,)), 7 * 3)

    def test_many_stands_with_many_ways_to_each(self):
        game = (self.GAME[0], ("x", "y", "z"), tuple((0, 0, q, (letter,)) for q in (0, 1, 2) for letter in (0, 1, 2))[:8])
        self.assertIs(brings_within(game, (0, (), ()), 0, (0,) * 6, 6), False)
        self.assertIsNone(least_moves(self.GAME, (0, (), ()), 0, (0,) * 6))


class HandedInTest(unittest.TestCase):
    def test_what_is_handed_in_stays_as_it_was(self):
        handed = copy.deepcopy((GAME, SAYING, 1, (1, 0)))
        least_moves(*handed)
        brings_within(*handed, 6)
        self.assertEqual(repr(handed), repr((GAME, SAYING, 1, (1, 0))))

    def test_asked_again_whatever_was_asked_between(self):
        # The same place and pile in two games and by two sayings: what one call knows, the next one doesn't.
        for turn in range(3):
            self.assertEqual(least_moves(TAKING, TAKEN, 0, (0, 0)), 2)
            self.assertIsNone(least_moves(TAKING, (0, (), ()), 0, (0, 0)))
            self.assertIsNone(least_moves(CHOOSING, TAKEN, 0, (0, 0)))
            self.assertIs(brings_within(TAKING, TAKEN, 0, (0, 0), 2), True)
            self.assertIs(brings_within(TAKING, TAKEN, 0, (0, 0), 1), False)
            self.assertIs(brings_within(CHOOSING, TAKEN, 0, (0, 0), 2), False)


if __name__ == "__main__":
    unittest.main()
