import unittest

from pileduel.readings import readings
from plain import plain_readings, samples, plain_machine

ARROWS = (
    (0, 0, (), 3), (0, 0, (1,), 2), (0, 0, (1, 2), 1),
    (0, 1, (0,), 4),
    (1, 1, (0,), 0), (1, 1, (3,), 5),
    (2, 1, (0, 3), 2), (2, 1, (3,), 7),
)


class ReadingsCase(unittest.TestCase):
    def told(self, arrows, stand, w, pairs):
        # By their writing: the kinds and the order must be as told, too.
        self.assertEqual(repr(readings(arrows, stand, w)), repr(pairs), (stand, w))


class NoLetterTest(ReadingsCase):
    def test_the_set_of_the_stand_alone(self):
        for stand in range(6):
            self.told(ARROWS, stand, (), [((stand,), 0)])
            self.told((), stand, (), [((stand,), 0)])


class OneLetterTest(ReadingsCase):
    def test_the_arrows_of_the_stand_and_letter(self):
        self.told(ARROWS, 0, (0,), [((), 3), ((1,), 2), ((1, 2), 1)])
        self.told(ARROWS, 0, (1,), [((0,), 4)])
        self.told(ARROWS, 2, (1,), [((0, 3), 2), ((3,), 7)])

    def test_no_arrow(self):
        self.told(ARROWS, 1, (0,), [])
        self.told(ARROWS, 3, (0,), [])
        self.told(ARROWS, 0, (2,), [])
        self.told((), 0, (0,), [])

    def test_alike_targets_of_other_costs_are_all_told(self):
        self.told(((0, 0, (1,), 5), (0, 0, (1,), 2), (0, 0, (1,), 3)), 0, (0,), [((1,), 2), ((1,), 3), ((1,), 5)])

    def test_one_that_is_there_twice_is_told_once(self):
        self.told(((0, 0, (1,), 5), (0, 0, (1,), 5)), 0, (0,), [((1,), 5)])

    def test_arrows_in_any_order(self):
        self.told(tuple(reversed(ARROWS)), 0, (0,), [((), 3), ((1,), 2), ((1, 2), 1)])


class TwoLettersTest(ReadingsCase):
    def test_an_arrow_without_targets(self):
        self.told(((0, 0, (), 3),), 0, (0, 1), [((), 3)])
        self.told(((0, 0, (), 3),), 0, (0, 0), [((), 3)])

    def test_an_arrow_with_one_target(self):
        arrows = ((0, 0, (1,), 2), (1, 1, (0,), 1), (1, 1, (3,), 5), (1, 0, (9,), 0))
        self.told(arrows, 0, (0, 1), [((0,), 3), ((3,), 7)])

    def test_an_arrow_with_two_targets(self):
        arrows = ((0, 0, (1, 2), 1), (1, 1, (0,), 0), (1, 1, (3,), 5), (2, 1, (0, 3), 2), (2, 1, (4,), 7))
        self.told(arrows, 0, (0, 1), [((0, 3), 3), ((0, 3), 6), ((0, 4), 8), ((3, 4), 8)])

    def test_the_first_ones_cost_and_the_greatest_of_the_others(self):
        arrows = ((0, 0, (1, 2, 3), 10), (1, 0, (), 4), (2, 0, (), 7), (3, 0, (), 6))
        self.told(arrows, 0, (0, 0), [((), 17)])

    def test_several_arrows(self):
        self.told(ARROWS, 0, (0, 1), [
            ((), 3), ((0,), 2), ((0, 3), 3), ((0, 3), 6), ((0, 3), 8), ((3,), 7), ((3,), 8),
        ])

    def test_a_target_without_an_arrow_of_the_second_letter(self):
        self.told(((0, 0, (1, 2), 1), (1, 1, (0,), 0)), 0, (0, 1), [])
        self.told(((0, 0, (1, 2), 1), (2, 1, (0,), 0)), 0, (0, 1), [])
        self.told(((0, 0, (1, 2), 1), (0, 0, (1,), 4), (1, 1, (0,), 0)), 0, (0, 1), [((0,), 4)])

    def test_no_arrow_of_the_first_letter(self):
        self.told(ARROWS, 1, (0, 1), [])
        self.told(ARROWS, 0, (2, 1), [])
        self.told((), 0, (0, 1), [])

    def test_alike_readings_of_other_costs(self):
        arrows = ((0, 0, (1,), 1), (0, 0, (2,), 3), (1, 1, (5,), 0), (2, 1, (5,), 0), (2, 1, (5,), 9))
        self.told(arrows, 0, (0, 1), [((5,), 1), ((5,), 3), ((5,), 12)])

    def test_readings_that_come_up_twice(self):
        arrows = ((0, 0, (1,), 1), (0, 0, (2,), 0), (1, 1, (5,), 2), (2, 1, (5,), 3))
        self.told(arrows, 0, (0, 1), [((5,), 3)])

    def test_needless_ones_are_told_too(self):
        arrows = ((0, 0, (1,), 0), (1, 0, (), 0), (1, 0, (1,), 0), (1, 0, (1, 2), 8))
        self.told(arrows, 0, (0, 0), [((), 0), ((1,), 0), ((1, 2), 8)])

    def test_both_letters_the_same_and_the_stand_its_own_target(self):
        self.told(((0, 0, (0,), 2),), 0, (0, 0), [((0,), 4)])

    def test_targets_rise_whatever_the_order_they_came_in(self):
        arrows = ((0, 0, (1, 2), 0), (1, 0, (7,), 0), (2, 0, (3, 11), 0))
        self.told(arrows, 0, (0, 0), [((3, 7, 11), 0)])


class ManyTest(ReadingsCase):
    def test_as_gone_through_choice_by_choice(self):
        for game, saying in samples(80):
            arrows = plain_machine(game, saying)
            letters = range(len(game[1]))
            ws = [()] + [(y,) for y in letters] + [(y, z) for y in letters for z in letters]
            for stand in range(len(game[0]) + saying[0]):
                for w in ws:
                    self.told(arrows, stand, w, plain_readings(arrows, stand, w))

    def test_rows_of_choices_are_not_gone_through_each_by_itself(self):
        # Four to the thirtieth rows of choices, few readings.
        targets = tuple(range(1, 31))
        arrows = [(0, 0, targets, 1)]
        for target in targets:
            arrows.extend([(target, 0, (40,), 2), (target, 0, (41,), 2), (target, 0, (40, 41), 3), (target, 0, (), 0)])
        self.told(tuple(arrows), 0, (0, 0), [
            ((), 1), ((40,), 3), ((40, 41), 3), ((40, 41), 4), ((41,), 3),
        ])


class HandedInTest(unittest.TestCase):
    def test_what_is_handed_in_stays_as_it_was(self):
        arrows = list(ARROWS)
        readings(arrows, 0, (0, 1))
        readings(arrows, 0, (0,))
        self.assertEqual(arrows, list(ARROWS))

    def test_a_told_list_is_the_askers_own(self):
        for w in ((), (0,), (0, 1)):
            told = readings(ARROWS, 0, w)
            before = list(told)
            told.clear()
            told.append(7)
            self.assertEqual(readings(ARROWS, 0, w), before)


if __name__ == "__main__":
    unittest.main()
