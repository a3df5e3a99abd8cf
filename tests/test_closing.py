import copy
import unittest

from changes import piles
from examples import GAME, MACHINE, RICH, SAYING
from pileduel.closing import follows, machine
from pileduel.errors import DuelError, TooMany
from pileduel.joined import both, either
from pileduel.readings import readings
from pileduel.sayings import is_in, reads
from plain import PlainPlay, kept_of, plain_cost, plain_follows, plain_machine, samples, some_saying

FIRST = (("p", 0), ("q", 0), ("r", 0))
MIXED = (("p", 0), ("q", 1), ("r", 0))
LETTERS = ("x", "y", "z")


def first_game(*rules):
    return (FIRST, LETTERS, rules)


def mixed_game(*rules):
    return (MIXED, LETTERS, rules)


class FollowsCase(unittest.TestCase):
    def told(self, game, arrows, found):
        # By their writing: the kinds and the order must be as told, too.
        self.assertEqual(repr(follows(game, arrows)), repr(found), (game, arrows))


class FirstHandFollowsTest(FollowsCase):
    def test_a_rule_without_letters(self):
        self.told(first_game((0, 0, 1, ())), (), [(0, 0, (1,), 1)])
        self.told(first_game((0, 0, 0, ())), ((0, 0, (0,), 1),), [(0, 0, (0,), 1)])

    def test_a_rule_with_one_letter(self):
        game = first_game((0, 0, 1, (2,)))
        self.told(game, (), [])
        self.told(game, ((1, 2, (3,), 4),), [(0, 0, (3,), 5)])
        self.told(game, ((1, 2, (3,), 4), (1, 2, (), 6)), [(0, 0, (), 7), (0, 0, (3,), 5)])
        self.told(game, ((2, 2, (3,), 4), (1, 1, (3,), 4)), [])

    def test_a_rule_with_two_letters(self):
        game = first_game((0, 0, 1, (2, 1)))
        arrows = ((1, 2, (0, 3), 4), (0, 1, (3,), 2), (3, 1, (0,), 5), (3, 1, (3, 4), 1))
        self.told(game, arrows, [(0, 0, (0, 3), 10), (0, 0, (3, 4), 7)])
        self.told(game, ((1, 2, (), 4),), [(0, 0, (), 5)])
        self.told(game, ((1, 2, (0,), 4),), [])
        # The top is put first.
        self.told(game, ((1, 1, (0,), 0), (0, 2, (0,), 0)), [])

    def test_several_rules(self):
        game = first_game((0, 0, 2, ()), (0, 0, 1, (1,)), (0, 0, 1, ()), (0, 1, 0, (1,)))
        arrows = ((1, 1, (3,), 0), (1, 1, (4,), 2))
        self.told(game, arrows, [(0, 0, (1,), 1), (0, 0, (2,), 1), (0, 0, (3,), 1), (0, 0, (4,), 3)])

    def test_what_follows_twice_is_told_once(self):
        game = first_game((0, 0, 1, (0,)), (0, 0, 2, (0,)))
        self.told(game, ((1, 0, (3,), 1), (2, 0, (3,), 1)), [(0, 0, (3,), 2)])

    def test_each_cost_is_told(self):
        game = first_game((0, 0, 1, (0,)), (0, 0, 2, (0,)))
        self.told(game, ((1, 0, (3,), 1), (2, 0, (3,), 4)), [(0, 0, (3,), 2), (0, 0, (3,), 5)])

    def test_no_rule(self):
        self.told(first_game(), ((0, 0, (), 0), (1, 0, (1,), 2)), [])

    def test_of_the_arrows_alone(self):
        # The arrows themselves don't follow.
        self.told(first_game((0, 0, 0, (1,))), ((0, 1, (), 0), (3, 0, (), 0)), [(0, 0, (), 1)])


class OtherHandFollowsTest(FollowsCase):
    def test_one_rule(self):
        self.told(mixed_game((1, 0, 0, ())), (), [(1, 0, (0,), 1)])
        self.told(mixed_game((1, 0, 0, (1,))), ((0, 1, (3,), 2), (0, 1, (4,), 0)), [(1, 0, (3,), 3), (1, 0, (4,), 1)])

    def test_two_rules_are_both_needed(self):
        game = mixed_game((1, 0, 0, (0,)), (1, 0, 2, (0,)))
        self.told(game, ((0, 0, (3,), 1), (2, 0, (4,), 5)), [(1, 0, (3, 4), 6)])
        self.told(game, ((0, 0, (3,), 7), (2, 0, (4,), 5)), [(1, 0, (3, 4), 8)])
        self.told(game, ((0, 0, (3,), 1),), [])
        self.told(game, ((2, 0, (3,), 1),), [])

    def test_one_of_two_that_has_no_letters(self):
        game = mixed_game((1, 0, 0, ()), (1, 0, 2, (0,)))
        self.told(game, (), [])
        self.told(game, ((2, 0, (), 3),), [(1, 0, (0,), 4)])

    def test_each_reading_with_each(self):
        game = mixed_game((1, 0, 0, (0,)), (1, 0, 2, (0,)))
        arrows = ((0, 0, (0,), 1), (0, 0, (3,), 2), (2, 0, (0,), 3), (2, 0, (4,), 0))
        self.told(game, arrows, [(1, 0, (0,), 4), (1, 0, (0, 3), 4), (1, 0, (0, 4), 2), (1, 0, (3, 4), 3)])

    def test_rules_with_two_letters(self):
        game = mixed_game((1, 0, 0, (0, 1)), (1, 0, 2, ()))
        self.told(game, ((0, 0, (3,), 1), (3, 1, (0,), 4)), [(1, 0, (0, 2), 6)])

    def test_no_rule_there(self):
        self.told(mixed_game((1, 1, 0, ())), ((1, 0, (), 0),), [(1, 1, (0,), 1)])
        self.told(mixed_game(), ((1, 0, (), 0),), [])

    def test_each_place_and_letter_by_itself(self):
        game = mixed_game((1, 0, 0, ()), (1, 1, 0, (0,)), (0, 0, 1, ()), (2, 1, 2, ()))
        self.told(game, (), [(0, 0, (1,), 1), (1, 0, (0,), 1), (2, 1, (2,), 1)])


class ManyFollowTest(FollowsCase):
    def test_as_gone_through_choice_by_choice(self):
        for game, saying in samples(120) + list(RICH):
            arrows = plain_machine(game, saying)
            self.told(game, arrows, plain_follows(game, arrows))
            told = tuple(arrow + (number,) for number, arrow in enumerate(saying[1]))
            self.told(game, told, plain_follows(game, told))

    def test_arrows_in_any_order(self):
        self.assertEqual(follows(GAME, tuple(reversed(MACHINE))), follows(GAME, MACHINE))

    def test_rows_of_choices_are_not_gone_through_each_by_itself(self):
        targets = tuple(range(3, 40))
        arrows = [(0, 0, targets, 1)]
        for target in targets:
            arrows.extend([(target, 0, (), 0), (target, 0, (2,), 0), (target, 0, (2,), 1)])
        game = mixed_game((1, 0, 0, (0, 0)), (1, 0, 0, ()))
        self.told(game, tuple(arrows), [(1, 0, (0,), 2), (1, 0, (0, 2), 2), (1, 0, (0, 2), 3)])


class MachineCase(unittest.TestCase):
    def told(self, game, saying, arrows):
        self.assertEqual(repr(machine(game, saying)), repr(arrows), (game, saying))


class MachineTest(MachineCase):
    def test_an_ordinary_one(self):
        self.told(GAME, SAYING, MACHINE)

    def test_without_arrows(self):
        self.told(first_game(), (0, (), ()), ())
        self.told(first_game(), (2, (), (0, 1)), ())
        self.told(first_game((0, 0, 1, (0,)), (0, 1, 1, (0, 0))), (1, (), (0,)), ())
        self.told(mixed_game((1, 0, 0, ()), (1, 0, 2, (0,))), (0, (), (0,)), ())

    def test_without_a_sayings_arrows_letters_are_taken_off(self):
        self.told(first_game((0, 0, 1, ())), (0, (), (1,)), ((0, 0, (1,), 1),))
        game = first_game((0, 0, 0, ()), (0, 1, 0, (0, 0)))
        self.told(game, (0, (), (0,)), ((0, 0, (0,), 1), (0, 1, (0,), 3)))

    def test_without_rules_the_sayings_own(self):
        saying = (2, ((0, 0, (3,)), (1, 1, (3, 4)), (3, 0, ()), (4, 2, (3,))), (0, 4))
        self.told(first_game(), saying, tuple(arrow + (0,) for arrow in saying[1]))

    def test_of_a_sayings_arrows_those_with_others_under_them_go(self):
        saying = (2, ((0, 0, (3,)), (0, 0, (3, 4)), (0, 1, (3, 4)), (3, 0, ()), (3, 0, (3,)), (3, 0, (4,))), ())
        self.told(first_game(), saying, ((0, 0, (3,), 0), (0, 1, (3, 4), 0), (3, 0, (), 0)))

    def test_targets_among_anothers_at_less_cost(self):
        # By one letter () at cost 1; by a longer way (2,) at cost 2, needless.
        game = first_game((0, 0, 1, (1,)), (0, 0, 1, (2,)), (1, 2, 2, ()))
        self.told(game, (0, ((1, 1, ()),), ()), ((0, 0, (), 1), (1, 1, (), 0), (1, 2, (2,), 1)))

    def test_targets_among_anothers_at_the_same_cost(self):
        game = first_game((0, 0, 1, (1,)), (0, 0, 2, ()))
        self.told(game, (0, ((1, 1, ()),), ()), ((0, 0, (), 1), (1, 1, (), 0)))

    def test_targets_among_anothers_at_more_cost(self):
        game = first_game((0, 0, 2, ()), (0, 0, 1, (2,)), (1, 2, 1, (1,)))
        told = ((0, 0, (), 2), (0, 0, (2,), 1), (1, 1, (), 0), (1, 2, (), 1))
        self.told(game, (0, ((1, 1, ()),), ()), told)

    def test_the_same_targets_at_more_cost_go(self):
        game = first_game((0, 0, 1, (2,)), (0, 0, 1, (1,)), (1, 2, 1, (1,)))
        saying = (1, ((1, 1, (3,)),), (3,))
        self.told(game, saying, ((0, 0, (3,), 1), (1, 1, (3,), 0), (1, 2, (3,), 1)))

    def test_a_sayings_arrow_that_follows_again_costs_nothing(self):
        game = first_game((0, 0, 1, (0,)), (1, 0, 0, (0,)))
        self.told(game, (0, ((0, 0, ()),), ()), ((0, 0, (), 0), (1, 0, (), 1)))

    def test_a_cheap_one_that_comes_by_a_longer_way_of_rounds(self):
        # Two moves one after the other cost less than one move of which a part is dear.
        game = first_game((0, 0, 1, (0, 1)), (0, 0, 2, (2,)), (1, 0, 1, (1,)), (1, 1, 1, (2,)), (1, 2, 1, ()),
                          (2, 2, 2, (1,)), (2, 1, 1, ()))
        self.told(game, (0, (), (1,)), plain_machine(game, (0, (), (1,))))
        self.assertEqual(plain_cost(machine(game, (0, (), (1,))), (1,), 0, (0,)), 3)

    def test_costs_the_greatest_of_several(self):
        game = mixed_game((1, 0, 0, (0,)), (1, 0, 2, (0,)), (0, 0, 0, (1,)), (0, 1, 0, ()), (2, 0, 2, ()))
        told = ((0, 0, (0,), 2), (0, 1, (0,), 1), (1, 0, (0, 2), 3), (2, 0, (2,), 1))
        self.told(game, (0, (), (0, 2)), told)

    def test_the_others_place_without_a_rule(self):
        # There the play is over: nothing follows.
        game = mixed_game((0, 0, 1, (0,)))
        self.told(game, (0, ((2, 0, ()),), ()), ((2, 0, (), 0),))
        self.told(game, (0, ((1, 0, ()),), ()), ((0, 0, (), 1), (1, 0, (), 0)))

    def test_the_others_place_with_one_that_leads_away(self):
        saying = (0, ((0, 1, ()),), ())
        self.told(mixed_game((1, 0, 0, (1,))), saying, ((0, 1, (), 0), (1, 0, (), 1)))
        self.told(mixed_game((1, 0, 0, (1,)), (1, 0, 2, (0,))), saying, ((0, 1, (), 0),))

    def test_costs_that_double(self):
        # Each letter is two of the next one, four moves deep.
        game = (FIRST, tuple("xyzuv"), tuple((0, x, 0, (x + 1, x + 1)) for x in range(4)) + ((0, 4, 0, ()),))
        told = tuple((0, x, (0,), 2 ** (5 - x) - 1) for x in range(5))
        self.told(game, (0, (), (0,)), told)

    def test_as_gone_through_round_by_round(self):
        for game, saying in samples(250) + list(RICH):
            self.told(game, saying, plain_machine(game, saying))

    def test_nothing_more_is_to_be_kept(self):
        for game, saying in samples(100) + list(RICH):
            arrows = machine(game, saying)
            more = set(arrows) | set(follows(game, arrows)) | {arrow + (0,) for arrow in saying[1]}
            self.assertEqual(tuple(sorted(kept_of(more))), arrows)

    def test_of_joined_sayings(self):
        for number, (game, saying) in enumerate(samples(25)):
            second = some_saying(2000 + number, game)
            for told in (either(game, saying, second), both(game, saying, second)):
                self.told(game, told, plain_machine(game, told))
                again = either(game, told, saying)
                self.told(game, again, plain_machine(game, again))


class TooManyTest(unittest.TestCase):
    def refused(self, game, saying, most):
        with self.assertRaises(TooMany) as taken:
            machine(game, saying, most)
        self.assertEqual(taken.exception.most, most)
        self.assertIs(taken.exception.most.__class__, int)
        self.assertIsInstance(taken.exception, DuelError)

    def test_as_many_as_there_are_and_one_fewer(self):
        self.assertEqual(machine(GAME, SAYING, 8), MACHINE)
        self.assertEqual(machine(GAME, SAYING, 9), MACHINE)
        self.assertEqual(machine(GAME, SAYING, 200), MACHINE)
        for most in range(1, 8):
            self.refused(GAME, SAYING, most)

    def test_of_many(self):
        for game, saying in samples(60) + list(RICH):
            arrows = machine(game, saying)
            self.assertEqual(machine(game, saying, max(1, len(arrows))), arrows)
            if len(arrows) > 1:
                self.refused(game, saying, len(arrows) - 1)
                self.refused(game, saying, 1)

    def test_needless_ones_never_count(self):
        saying = (2, ((0, 0, ()), (0, 0, (3,)), (0, 0, (3, 4)), (0, 0, (4,))), ())
        self.assertEqual(machine(first_game(), saying, 1), ((0, 0, (), 0),))

    def test_two_hundred_and_one_more(self):
        # Joined again and again there are more arrows than most is where it isn't said.
        one = (2, ((0, 0, (3,)), (0, 1, (3, 4)), (1, 0, (4,)), (3, 0, (3,)), (3, 1, (4,)), (4, 0, (3,)), (4, 2, (3,))), ())
        bare = (1, ((3, 0, (3,)),), ())
        game = first_game()
        wide = one
        for turn in range(27):
            wide = either(game, wide, one)
        for turn in range(4):
            wide = either(game, wide, bare)
        self.assertEqual(len(machine(game, wide)), 200)
        self.assertEqual(len(machine(game, wide, 200)), 200)
        self.refused(game, wide, 199)
        wider = either(game, wide, bare)
        with self.assertRaises(TooMany) as taken:
            machine(game, wider)
        self.assertEqual(taken.exception.most, 200)
        self.refused(game, wider, 200)


class PlayTest(unittest.TestCase):
    def by_play(self, game, saying, height, most):
        """What is read is brought about within its cost, what is brought about within few moves is read."""
        arrows = machine(game, saying)
        play = PlainPlay(game, saying)
        counts = {"read": 0, "not read": 0}
        for pile in piles(len(game[1]), height):
            for place in range(len(game[0])):
                cost = plain_cost(arrows, saying[2], place, pile)
                self.assertIs(reads(arrows, saying[2], place, pile), cost is not None)
                if cost is None:
                    self.assertFalse(play.within(place, pile, most), (game, saying, place, pile))
                    counts["not read"] += 1
                elif cost <= most:
                    self.assertTrue(play.within(place, pile, cost), (game, saying, place, pile))
                    counts["read"] += not is_in(saying, place, pile)
        return counts

    def test_an_ordinary_one_by_play(self):
        counts = self.by_play(GAME, SAYING, 4, 12)
        self.assertGreater(counts["read"], 30)
        self.assertGreater(counts["not read"], 30)

    def test_many_by_play(self):
        read = 0
        for game, saying in samples(150):
            read += self.by_play(game, saying, 3, 7)["read"]
        self.assertGreater(read, 300)

    def test_rich_ones_by_play(self):
        for game, saying in RICH:
            self.assertGreater(self.by_play(game, saying, 3, 7)["read"], 5)

    def test_without_the_others_places_costs_tell_the_least_moves(self):
        seen = 0
        for game, saying in samples(120, [0, 0]):
            arrows = machine(game, saying)
            play = PlainPlay(game, saying)
            for pile in piles(len(game[1]), 3):
                for place in range(len(game[0])):
                    cost = plain_cost(arrows, saying[2], place, pile)
                    if cost is None or cost > 7:
                        self.assertIsNone(play.least(place, pile, 7))
                    else:
                        self.assertEqual(play.least(place, pile, 7), cost, (game, saying, place, pile))
                        seen += cost > 0
        self.assertGreater(seen, 100)

    def test_of_sayings_joined(self):
        for number, (game, saying) in enumerate(samples(40)):
            second = some_saying(3000 + number, game)
            self.by_play(game, either(game, saying, second), 3, 6)
            self.by_play(game, both(game, saying, second), 3, 6)

    def test_with_a_rule_more_of_the_firsts_nothing_is_lost(self):
        for game, saying in samples(60):
            for number, rule in enumerate(game[2]):
                fewer = (game[0], game[1], game[2][:number] + game[2][number + 1:])
                same_top = [other for other in fewer[2] if other[:2] == rule[:2]]
                if game[0][rule[0]][1] == 0:
                    self.reads_no_less(game, fewer, saying)
                elif same_top:
                    self.reads_no_less(fewer, game, saying)

    def reads_no_less(self, more, less, saying):
        wide = machine(more, saying)
        narrow = machine(less, saying)
        for pile in piles(len(more[1]), 3):
            for place in range(len(more[0])):
                if reads(narrow, saying[2], place, pile):
                    self.assertTrue(reads(wide, saying[2], place, pile))


class HandedInTest(unittest.TestCase):
    def test_what_is_handed_in_stays_as_it_was(self):
        game = copy.deepcopy(GAME)
        saying = copy.deepcopy(SAYING)
        arrows = list(MACHINE)
        follows(game, arrows)
        machine(game, saying)
        self.assertEqual(repr((game, saying, arrows)), repr((GAME, SAYING, list(MACHINE))))

    def test_a_told_list_is_the_askers_own(self):
        told = follows(GAME, MACHINE)
        before = list(told)
        told.clear()
        told.append(7)
        self.assertEqual(follows(GAME, MACHINE), before)

    def test_asked_again_whatever_was_asked_between(self):
        self.assertEqual(machine(GAME, SAYING), MACHINE)
        with self.assertRaises(TooMany):
            machine(GAME, SAYING, 1)
        machine(GAME, (0, (), ()))
        readings(MACHINE, 0, (2, 0))
        self.assertEqual(machine(GAME, SAYING), MACHINE)


if __name__ == "__main__":
    unittest.main()
