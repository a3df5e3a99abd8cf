import copy
import itertools
import unittest

from changes import piles
from pileduel.closing import machine
from pileduel.errors import DuelError, TooMany
from pileduel.joined import either
from pileduel.papermaker import paper_for
from pileduel.play import behind, behind_all, rules_here
from pileduel.runs import least_cost
from pileduel.sayings import is_in
from pileduel.ways import way_from
from plain import samples

# x is taken off in three moves, by p, q and r; y is two of x and one move more, z two of y and one more: 3, 7, 15.
SLOW = ((("p", 0), ("q", 0), ("r", 0)), ("x", "y", "z"), (
    (0, 2, 0, (1, 1)), (0, 1, 0, (0, 0)), (0, 0, 1, (0,)), (1, 0, 2, (0,)), (2, 0, 0, ()),
))
EMPTIED = (0, (), (0,))
X_WAY = (2, 3, 4)
Y_WAY = (1,) + X_WAY + X_WAY
Z_WAY = (0,) + Y_WAY + Y_WAY

ONE = (("p", 0),)


def single(saying):
    """The saying with at most one target for each arrow."""
    return (saying[0], tuple(sorted({arrow[:2] + (arrow[2][-1:],) for arrow in saying[1]})), saying[2])


def first_of_the_shortest(game, saying, place, pile, most):
    """By layers of all places and piles that can be come to; None where it takes more moves, or never is."""
    layer = {(place, pile): ()}
    seen = dict(layer)
    for moves in range(most + 1):
        ways = [way for here, way in layer.items() if is_in(saying, *here)]
        if ways:
            return min(ways)
        longer = {}
        for here, way in layer.items():
            for rule in rules_here(game, *here):
                further = behind(game, *here, rule)
                if further not in seen:
                    longer[further] = min(longer.get(further, way + (rule,)), way + (rule,))
        seen.update(longer)
        layer = longer
    return None


class WayCase(unittest.TestCase):
    def told(self, game, saying, place, pile, way, *most):
        self.assertEqual(repr(way_from(game, saying, place, pile, *most)), repr(way), (place, pile))
        if way is not None:
            self.assertTrue(is_in(saying, *behind_all(game, place, pile, way)))

    def refused(self, game, saying, place, pile, most, *asked):
        with self.assertRaises(DuelError) as caught:
            way_from(game, saying, place, pile, *asked)
        self.assertIs(type(caught.exception), TooMany)
        self.assertEqual(repr(caught.exception.most), repr(most))


class WayTest(WayCase):
    def test_where_one_stands_already(self):
        self.told(SLOW, EMPTIED, 0, (), ())
        self.told(SLOW, (0, ((1, 0, ()),), ()), 1, (0, 2, 2), ())
        # Though a rule is there, and the saying is come to behind it again.
        self.told((ONE, ("x",), ((0, 0, 0, ()),)), (1, ((0, 0, (1,)), (1, 0, (1,))), (0, 1)), 0, (0, 0), ())

    def test_none(self):
        self.told(SLOW, EMPTIED, 1, (), None)
        self.told(SLOW, EMPTIED, 1, (2,), None)
        self.told(SLOW, (0, (), ()), 0, (0,), None)
        self.told((ONE, ("x",), ()), EMPTIED, 0, (0,), None)
        # A play that never ends and never comes there.
        self.told((ONE, ("x",), ((0, 0, 0, (0, 0)),)), EMPTIED, 0, (0,), None)

    def test_a_short_way(self):
        self.told(SLOW, EMPTIED, 0, (0,), X_WAY)
        self.told(SLOW, EMPTIED, 1, (0,), X_WAY[1:])
        self.told(SLOW, EMPTIED, 2, (0,), X_WAY[2:])
        self.told(SLOW, EMPTIED, 0, (1,), Y_WAY)
        self.told(SLOW, EMPTIED, 0, (1, 0), Y_WAY + X_WAY)

    def test_longer_ways(self):
        self.told(SLOW, EMPTIED, 0, (2,), Z_WAY)
        self.told(SLOW, EMPTIED, 0, (2, 0, 2), Z_WAY + X_WAY + Z_WAY)
        self.told(SLOW, EMPTIED, 0, (2, 2, 2, 2), Z_WAY * 4)
        self.told(SLOW, EMPTIED, 0, (2,) * 6, Z_WAY * 6, 200)
        self.assertEqual(len(Z_WAY * 6), 90)

    def test_of_two_ways_of_the_same_length_the_first(self):
        # By y or by z, in two moves each; the first way is told whatever the order of the rules.
        rules = ((0, 0, 0, (1,)), (0, 0, 0, (2,)), (0, 1, 0, ()), (0, 2, 0, ()))
        for order in itertools.permutations(rules):
            ways = [(order.index(rules[0]), order.index(rules[2])), (order.index(rules[1]), order.index(rules[3]))]
            self.told((ONE, ("x", "y", "z"), order), EMPTIED, 0, (0,), min(ways))
            self.told((ONE, ("x", "y", "z"), order), EMPTIED, 0, (0, 0), min(ways) * 2)

    def test_ways_that_part_late(self):
        # Alike in the first move, then by either of two rules.
        rules = ((0, 0, 0, (1,)), (0, 1, 0, (2,)), (0, 1, 1, (2,)), (0, 2, 0, ()), (1, 2, 0, ()))
        for order in itertools.permutations(rules):
            at = [order.index(rule) for rule in rules]
            ways = [(at[0], at[1], at[3]), (at[0], at[2], at[4])]
            self.told(((("p", 0), ("q", 0)), ("x", "y", "z"), order), EMPTIED, 0, (0,), min(ways))

    def test_not_the_lowest_rule_where_it_is_longer(self):
        # Rule 0 is gone by and leads there, but by a move more; rule 1 leads there at once.
        self.told((ONE, ("x", "y"), ((0, 0, 0, (1,)), (0, 0, 0, ()), (0, 1, 0, ()))), EMPTIED, 0, (0,), (1,))
        # Rule 0 leads on for ever.
        self.told((ONE, ("x",), ((0, 0, 0, (0,)), (0, 0, 0, ()))), EMPTIED, 0, (0, 0), (1, 1))
        # Rule 0 leads to where none is there.
        self.told((ONE, ("x", "y"), ((0, 0, 0, (1,)), (0, 0, 0, ()))), EMPTIED, 0, (0, 0), (1, 1))

    def test_what_lies_beneath_decides(self):
        # x is taken off to p or to q; from q y is taken off at once, from p not at all, and z the other way about.
        game = ((("p", 0), ("q", 0)), ("x", "y", "z"), ((0, 0, 0, ()), (0, 0, 1, ()), (1, 1, 0, ()), (0, 2, 0, ())))
        self.told(game, EMPTIED, 0, (0, 1), (1, 2))
        self.told(game, EMPTIED, 0, (0, 2), (0, 3))
        self.told(game, EMPTIED, 0, (0, 0, 1, 0, 2), (0, 1, 2, 0, 3))

    def test_own_stands(self):
        # In the saying: p, an x, and beneath it only y's.
        saying = (1, ((0, 0, (1,)), (1, 1, (1,))), (1,))
        game = (ONE, ("x", "y"), ((0, 0, 0, ()), (0, 1, 0, (0,)), (0, 1, 0, (0, 1))))
        self.told(game, saying, 0, (0, 1, 1), ())
        self.told(game, saying, 0, (1, 1), (1,))
        self.told(game, saying, 0, (0, 0, 0, 1), (0, 0))
        self.told(game, saying, 0, (1, 0, 1), (1, 0))
        self.told(game, saying, 0, (), None)

    def test_by_layers_of_piles(self):
        seen = {}
        for game, saying in samples(150, [0]) + samples(150, [0, 0]) + samples(150, [0, 0, 0]):
            saying = single(saying)
            for place, pile in itertools.product(range(len(game[0])), piles(len(game[1]), 2)):
                way = way_from(game, saying, place, pile, 200)
                length = None if way is None else len(way)
                if length is None or length <= 7:
                    self.assertEqual(way, first_of_the_shortest(game, saying, place, pile, 7))
                self.assertEqual(length, least_cost(saying, paper_for(game, saying), place, pile))
                seen[length] = True
        self.assertGreater(len(seen), 7)


class TooManyTest(WayCase):
    def test_most_as_great_as_the_length_and_one_fewer(self):
        for pile, way in (((0,), X_WAY), ((1,), Y_WAY), ((2, 0), Z_WAY + X_WAY), ((2,) * 6, Z_WAY * 6)):
            self.told(SLOW, EMPTIED, 0, pile, way, len(way))
            self.told(SLOW, EMPTIED, 0, pile, way, len(way) + 1)
            self.refused(SLOW, EMPTIED, 0, pile, len(way) - 1, len(way) - 1)
            self.refused(SLOW, EMPTIED, 0, pile, 1, 1)

    def test_most_left_out(self):
        # 60 moves, and 61.
        self.told(SLOW, EMPTIED, 0, (2, 2, 2, 2), Z_WAY * 4)
        self.refused(SLOW, EMPTIED, 2, (0, 2, 2, 2, 2), 60)
        self.refused(SLOW, EMPTIED, 0, (2,) * 6, 60)
        self.told(SLOW, EMPTIED, 2, (0, 2, 2, 2, 2), (4,) + Z_WAY * 4, 61)

    def test_none_is_told_whatever_most_is(self):
        self.told(SLOW, EMPTIED, 1, (2,) * 6, None, 1)
        self.told(SLOW, EMPTIED, 0, (), (), 1)

    def test_more_than_most_arrows_are_no_hindrance(self):
        # Eight arrows, most being 1: of the arrows 200 are let by, whatever most is.
        saying = (2, tuple((1 + own, letter, (1 + own,)) for own in (0, 1) for letter in (0, 1, 2)), (0,))
        game = (ONE, ("x", "y", "z"), ((0, 0, 0, ()), (0, 1, 0, ())))
        self.assertEqual(len(machine(game, saying)), 8)
        self.told(game, saying, 0, (0,), (0,), 1)

    def many_arrows(self, many):
        """A saying of so many arrows of own stands, none of them needless, and of p without letters."""
        game = (ONE, ("x", "y", "z"), ())
        saying = (0, (), (0,))
        arrows = tuple((own, letter, (own,)) for own in (1, 2) for letter in (0, 1, 2))
        while len(saying[1]) < many:
            saying = either(game, saying, (2, arrows[:many - len(saying[1])], (0,)))
        self.assertEqual(len(saying[1]), many)
        return saying

    def test_a_machine_of_more_than_two_hundred_arrows(self):
        game = (ONE, ("x", "y", "z"), ((0, 0, 0, ()),))
        self.told(game, self.many_arrows(199), 0, (0, 0), (0, 0))
        for most in ((), (1,), (60,), (200,)):
            self.refused(game, self.many_arrows(200), 0, (0, 0), 200, *most)
            # Also where one stands in the saying already, and where no way is there.
            self.refused(game, self.many_arrows(200), 0, (), 200, *most)
            self.refused(game, self.many_arrows(200), 0, (1,), 200, *most)


class HandedInTest(unittest.TestCase):
    def test_what_is_handed_in_stays_as_it_was(self):
        handed = copy.deepcopy((SLOW, EMPTIED, 0, (2, 1)))
        way_from(*handed)
        self.assertEqual(repr(handed), repr((SLOW, EMPTIED, 0, (2, 1))))

    def test_asked_again_whatever_was_asked_between(self):
        for turn in range(3):
            self.assertEqual(way_from(SLOW, EMPTIED, 0, (1,)), Y_WAY)
            self.assertIsNone(way_from(SLOW, (0, (), ()), 0, (1,)))
            self.assertRaises(TooMany, way_from, SLOW, EMPTIED, 0, (2,), 3)
            self.assertEqual(way_from(SLOW, EMPTIED, 0, (0, 0)), X_WAY * 2)


if __name__ == "__main__":
    unittest.main()
