import copy
import itertools
import unittest

from changes import dearer, length_changes, number_changes, piles
from examples import GAME, PAPER, RICH, SAYING, WIDE_GAME, WIDE_PAPER, WIDE_SAYING
from pileduel.joined import either
from pileduel.otherplan import plan_keeps, plan_of
from pileduel.papermaker import paper_for
from pileduel.papers import paper_holds
from pileduel.play import behind, rules_here
from pileduel.sayings import is_in, reads
from pileduel.sets import sets_come_up, stands_reading
from plain import plainly_reads, samples, some_saying, wider

# q, the other's, answers x by none or one letter, y by two, and has no answer to z.
ANSWERS = ((("p", 0), ("q", 1)), ("x", "y", "z"), ((1, 0, 0, ()), (1, 0, 0, (1,)), (1, 1, 1, (0, 0)), (0, 0, 1, (0,))))
# The place p without letters, no arrow: the sets (0,) and ().
EMPTIED = (0, (), (0,))
ANSWERS_PLAN = ((0, 1, 0, 1), (0, 1, 1, 2), (1, 1, 0, 0), (1, 1, 1, 2))

# Two places of the other's, 0 and 2, around one of the first's.
AROUND = ((("p", 1), ("q", 0), ("r", 1)), ("x", "y"), (
    (0, 0, 2, ()), (0, 0, 1, (1,)), (2, 0, 1, ()), (2, 0, 0, (1, 1)), (0, 1, 1, ()), (1, 1, 1, ()), (2, 1, 2, (0,)),
    (2, 1, 2, (1,)),
))
AROUND_SAYING = (1, ((1, 0, (3,)), (3, 1, ())), (1,))
AROUND_PLAN = (
    (0, 0, 0, 0), (0, 2, 1, 7), (1, 0, 0, 1), (1, 0, 1, 4), (1, 2, 0, 2), (1, 2, 1, 6), (2, 0, 0, 0), (2, 2, 1, 7),
    (3, 0, 0, 0), (3, 0, 1, 4), (3, 2, 0, 2), (3, 2, 1, 6), (4, 0, 0, 0), (4, 0, 1, 4), (4, 2, 0, 2), (4, 2, 1, 6),
    (5, 2, 1, 7), (6, 0, 0, 1), (6, 0, 1, 4), (6, 2, 0, 2), (6, 2, 1, 6),
)
WIDE_PLAN = ((0, 1, 1, 2), (2, 1, 1, 2), (4, 1, 1, 2), (5, 1, 1, 2))


def plain_due(game, saying, paper):
    """For each row that a plan must have, its rules, each found by reading a whole pile."""
    due = {}
    for number, (stands, pile) in enumerate(sets_come_up(game, paper, saying[2])):
        for place, letter in itertools.product(range(len(game[0])), range(len(game[1]))):
            rules = rules_here(game, place, (letter,))
            read = plainly_reads(paper, saying[2], place, (letter,) + pile)
            if game[0][place][1] == 1 and rules and not read:
                due[(number, place, letter)] = [
                    rule for rule in rules
                    if not plainly_reads(paper, saying[2], game[2][rule][2], game[2][rule][3] + pile)
                ]
    return due


def plainly_keeps(game, saying, paper, plan):
    due = plain_due(game, saying, paper)
    if sorted(row[:3] for row in plan) != sorted(due):
        return False
    return all(row[3] in due[row[:3]] for row in plan)


class PlanCase(unittest.TestCase):
    def told(self, game, saying, plan):
        self.assertEqual(repr(plan_of(game, saying, paper_for(game, saying))), repr(plan))
        self.keeps(game, saying, plan, True)

    def keeps(self, game, saying, plan, answer):
        self.assertIs(plan_keeps(game, saying, paper_for(game, saying), plan), answer, plan)


class PlanOfTest(PlanCase):
    def test_no_place_of_the_others(self):
        game = ((("p", 0), ("q", 0)), ("x",), ((0, 0, 1, ()), (1, 0, 0, (0, 0))))
        for saying in ((0, (), ()), (0, (), (0,)), (1, ((0, 0, (2,)), (2, 0, (2,))), (2,))):
            self.told(game, saying, ())

    def test_no_rule_one_rule_two_rules(self):
        # Read is nothing, whatever rule is gone by.
        for many in range(3):
            game = ((("p", 1),), ("x", "y"), ((0, 0, 0, ()), (0, 0, 0, (0,)))[:many])
            self.told(game, (0, (), ()), ((0, 0, 0, 0),)[:many])

    def test_the_lowest_rule_behind_which_it_is_not_read(self):
        # Over the set (0,) rule 0 leads to the saying, over the set () neither does.
        self.told(ANSWERS, EMPTIED, ANSWERS_PLAN)

    def test_not_the_lowest_rule_that_is_read_behind(self):
        for order in ((0, 1), (1, 0)):
            rules = tuple(ANSWERS[2][number] for number in order)
            keeping = order.index(1)
            self.told((ANSWERS[0], ("x", "y"), rules), EMPTIED, ((0, 1, 0, keeping), (1, 1, 0, 0)))

    def test_rules_with_none_one_and_two_letters(self):
        # In the saying is p with x on top, q with y on top. The sets: (), then (0,) by x, (1,) by y, perhaps (0, 1).
        for w, plan in (
            ((), ((0, 1, 0, 0), (2, 1, 0, 0))),
            ((0,), ()),
            ((1,), ((0, 1, 0, 0), (1, 1, 0, 0), (2, 1, 0, 0))),
            ((0, 1), ()),
            ((1, 0), ((0, 1, 0, 0), (1, 1, 0, 0), (2, 1, 0, 0))),
        ):
            game = ((("p", 0), ("q", 1)), ("x", "y"), ((1, 0, 0, w),))
            self.told(game, (0, ((0, 0, ()), (1, 1, ())), ()), plan)

    def test_two_letters_one_above_the_other(self):
        # Behind the rule x y lies on the rest, x on top: it is read where y's stand reads, and not where x's does.
        places = (("p", 0), ("q", 1))
        saying = (1, ((0, 0, (2,)), (2, 1, ())), ())
        self.told((places, ("x", "y", "z"), ((1, 2, 0, (1, 0)), (1, 2, 0, (0, 1)))), saying, (
            (0, 1, 2, 0), (1, 1, 2, 0), (2, 1, 2, 0),
        ))
        self.told((places, ("x", "y", "z"), ((1, 2, 0, (0, 1)), (1, 2, 0, (1, 0)))), saying, (
            (0, 1, 2, 1), (1, 1, 2, 1), (2, 1, 2, 1),
        ))

    def test_no_row_where_the_letter_is_read_over_the_set(self):
        self.told(GAME, SAYING, ())
        self.told(WIDE_GAME, WIDE_SAYING, WIDE_PLAN)
        game = ((("p", 1),), ("x",), ((0, 0, 0, (0,)),))
        self.told(game, (0, ((0, 0, ()),), ()), ())
        # A letter over the set (1,) is read, over the set () not: the first letter takes away what reads.
        self.told(game, (1, ((0, 0, (1,)),), (1,)), ((1, 0, 0, 0), (2, 0, 0, 0)))

    def test_several_sets_and_places(self):
        self.told(AROUND, AROUND_SAYING, AROUND_PLAN)

    def test_more_than_ten_sets_are_sorted_by_their_numbers(self):
        saying = (1, ((1, 0, (3,)), (2, 1, (3,)), (3, 1, ())), (1, 3))
        paper = paper_for(AROUND, saying)
        told = plan_of(AROUND, saying, paper)
        self.assertEqual(max(row[0] for row in told), 10)
        self.assertEqual(told, tuple(sorted(told)))
        self.assertEqual(told, tuple((*spot, rules[0]) for spot, rules in sorted(plain_due(AROUND, saying, paper).items())))

    def test_a_saying_without_arrows(self):
        self.told(ANSWERS, (0, (), ()), ((0, 1, 0, 0), (0, 1, 1, 2)))
        self.told(ANSWERS, (0, (), (1,)), ((0, 1, 0, 0), (0, 1, 1, 2), (1, 1, 0, 0), (1, 1, 1, 2)))

    def test_as_found_by_whole_piles(self):
        many = {}
        for game, saying in samples(250) + list(RICH):
            paper = paper_for(game, saying)
            due = plain_due(game, saying, paper)
            self.assertTrue(all(due.values()))
            self.assertEqual(plan_of(game, saying, paper), tuple((*spot, due[spot][0]) for spot in sorted(due)))
            many[len(due)] = True
        self.assertGreater(len(many), 15)

    def test_of_joined_sayings(self):
        rows = 0
        for number, (game, saying) in enumerate(samples(60)):
            saying = either(game, saying, some_saying(7000 + number, game))
            paper = paper_for(game, saying, 1000)
            due = plain_due(game, saying, paper)
            self.assertEqual(plan_of(game, saying, paper), tuple((*spot, due[spot][0]) for spot in sorted(due)))
            rows += len(due)
        self.assertGreater(rows, 100)

    def test_of_any_paper_that_holds(self):
        cases = [(ANSWERS, EMPTIED), (AROUND, AROUND_SAYING), (GAME, SAYING), (WIDE_GAME, WIDE_SAYING)] + samples(80)
        longer = 0
        for game, saying in cases:
            paper = paper_for(game, saying)
            plan = plan_of(game, saying, paper)
            for other in (paper + paper, dearer(paper, 3), paper + dearer(paper, 2), wider(game, paper)):
                self.assertIs(paper_holds(game, saying, other), True)
                self.assertEqual(plan_of(game, saying, other), plan)
                self.assertIs(plan_keeps(game, saying, other, plan), True)
                self.assertIs(plan_keeps(game, saying, other, plan + ((0, 0, 0, 0),)), False)
                longer += len(other) > len(paper)
        self.assertGreater(longer, 100)


class KeepsOutTest(unittest.TestCase):
    def test_by_the_plan_one_never_comes_to_where_it_is_read(self):
        played = 0
        cases = [(ANSWERS, EMPTIED), (AROUND, AROUND_SAYING), (WIDE_GAME, WIDE_SAYING)] + samples(150) + list(RICH)
        for game, saying in cases:
            played += self.played(game, saying, paper_for(game, saying))
        self.assertGreater(played, 2000)

    def played(self, game, saying, paper):
        sets = [stands for stands, pile in sets_come_up(game, paper, saying[2])]
        by_plan = {row[:3]: row[3] for row in plan_of(game, saying, paper)}
        starts = itertools.product(range(len(game[0])), piles(len(game[1]), 2))
        here = [start for start in starts if not reads(paper, saying[2], *start)]
        seen = dict.fromkeys(here)
        # The list grows while it is walked, up to some hundred stands.
        for place, pile in here:
            self.assertFalse(is_in(saying, place, pile))
            self.assertFalse(reads(paper, saying[2], place, pile), (game, saying, place, pile))
            rules = rules_here(game, place, pile)
            if rules and game[0][place][1] == 1:
                at = sets.index(stands_reading(paper, saying[2], pile[1:]))
                self.assertIn(by_plan[(at, place, pile[0])], rules)
                rules = [by_plan[(at, place, pile[0])]]
            for rule in rules:
                further = behind(game, place, pile, rule)
                if further not in seen and len(seen) < 300:
                    seen[further] = True
                    here.append(further)
        return len(here)


class PlanKeepsTest(PlanCase):
    def test_the_plan_told(self):
        self.keeps(ANSWERS, EMPTIED, ANSWERS_PLAN, True)
        self.keeps(AROUND, AROUND_SAYING, AROUND_PLAN, True)
        self.keeps(WIDE_GAME, WIDE_SAYING, WIDE_PLAN, True)

    def test_rows_turned_about(self):
        for plan in itertools.permutations(ANSWERS_PLAN):
            self.keeps(ANSWERS, EMPTIED, plan, True)
        self.keeps(AROUND, AROUND_SAYING, AROUND_PLAN[::-1], True)
        self.keeps(AROUND, AROUND_SAYING, AROUND_PLAN[7:] + AROUND_PLAN[:7], True)

    def test_another_keeping_rule_than_the_lowest(self):
        self.keeps(ANSWERS, EMPTIED, ANSWERS_PLAN[:2] + ((1, 1, 0, 1),) + ANSWERS_PLAN[3:], True)
        self.keeps(WIDE_GAME, WIDE_SAYING, ((0, 1, 1, 3), (2, 1, 1, 3), (4, 1, 1, 2), (5, 1, 1, 2)), True)

    def test_a_rule_behind_which_it_is_read(self):
        self.keeps(ANSWERS, EMPTIED, ((0, 1, 0, 0),) + ANSWERS_PLAN[1:], False)
        self.keeps(WIDE_GAME, WIDE_SAYING, WIDE_PLAN[:2] + ((4, 1, 1, 3),) + WIDE_PLAN[3:], False)
        self.keeps(WIDE_GAME, WIDE_SAYING, WIDE_PLAN[:3] + ((5, 1, 1, 3),), False)

    def test_a_row_left_out(self):
        for plan in (ANSWERS_PLAN, WIDE_PLAN):
            game, saying = (ANSWERS, EMPTIED) if plan == ANSWERS_PLAN else (WIDE_GAME, WIDE_SAYING)
            for at in range(len(plan)):
                self.keeps(game, saying, plan[:at] + plan[at + 1:], False)

    def test_a_row_twice(self):
        for at in range(len(ANSWERS_PLAN)):
            self.keeps(ANSWERS, EMPTIED, ANSWERS_PLAN + ANSWERS_PLAN[at:at + 1], False)
            # As many rows as are due, but one of them twice in another's stead.
            self.keeps(ANSWERS, EMPTIED, ANSWERS_PLAN[1:] + ANSWERS_PLAN[-1:], False)
        self.keeps(ANSWERS, EMPTIED, ANSWERS_PLAN + ANSWERS_PLAN, False)
        # The same spot by both rules that keep out.
        self.keeps(ANSWERS, EMPTIED, ANSWERS_PLAN + ((1, 1, 0, 1),), False)
        self.keeps(ANSWERS, EMPTIED, ANSWERS_PLAN[:3] + ((1, 1, 0, 1),), False)

    def test_a_row_of_another_set_place_letter_or_rule(self):
        for at, row in enumerate(ANSWERS_PLAN):
            for part in range(4):
                for number in (-10 ** 30, -5, -4, -3, -2, -1, 0, 1, 2, 3, 4, 5, 6, 10 ** 30):
                    other = row[:part] + (number,) + row[part + 1:]
                    # Of all these the rule 1 in the place of 0, at the set (), keeps out as well.
                    answer = other == row or (row, other) == ((1, 1, 0, 0), (1, 1, 0, 1))
                    self.keeps(ANSWERS, EMPTIED, ANSWERS_PLAN[:at] + (other,) + ANSWERS_PLAN[at + 1:], answer)

    def test_a_rule_of_another_place_or_letter_or_of_the_first_hands(self):
        # Rule 3 is the first's, rule 2 is of y, rule 4 is of r.
        for rule in (2, 3, 4, -1, -2, -4):
            self.keeps(ANSWERS, EMPTIED, ANSWERS_PLAN[:2] + ((1, 1, 0, rule),) + ANSWERS_PLAN[3:], False)
        for rule in (0, 1, 2, 5, 8, -1):
            self.keeps(AROUND, AROUND_SAYING, AROUND_PLAN[:-1] + ((6, 2, 1, rule),), False)
        self.keeps(AROUND, AROUND_SAYING, AROUND_PLAN[:-1] + ((6, 2, 1, 7),), True)

    def test_one_row_more(self):
        for row in ((2, 1, 0, 0), (0, 0, 0, 3), (0, 1, 2, 2), (0, 0, 0, 0), (-1, 1, 0, 0), (10 ** 30, 1, 0, 0)):
            self.keeps(ANSWERS, EMPTIED, ANSWERS_PLAN + (row,), False)
            self.keeps(ANSWERS, EMPTIED, (row,) + ANSWERS_PLAN, False)
        # Where it is read no row is due, though a rule is there.
        self.keeps(WIDE_GAME, WIDE_SAYING, WIDE_PLAN + ((1, 1, 1, 2),), False)
        self.keeps(GAME, SAYING, ((0, 1, 0, 3),), False)

    def test_the_plan_without_rows(self):
        self.keeps(GAME, SAYING, (), True)
        self.keeps(((("p", 0),), ("x",), ()), (0, (), ()), (), True)
        self.keeps(((("p", 1),), ("x",), ()), (0, (), ()), (), True)
        self.keeps(((("p", 1),), ("x",), ((0, 0, 0, ()),)), (0, (), ()), (), False)
        self.keeps(ANSWERS, EMPTIED, (), False)
        self.keeps(WIDE_GAME, WIDE_SAYING, (), False)

    def test_all_choices_of_keeping_rules(self):
        # Over each spot any of its rules, told apart by reading whole piles.
        for game, saying in ((ANSWERS, EMPTIED), (WIDE_GAME, WIDE_SAYING)):
            due = plain_due(game, saying, paper_for(game, saying))
            for rules in itertools.product(range(-1, len(game[2]) + 1), repeat=len(due)):
                plan = tuple((*spot, rule) for spot, rule in zip(due, rules))
                answer = all(rule in due[spot] for spot, rule in zip(due, rules))
                self.assertIs(plan_keeps(game, saying, paper_for(game, saying), plan), answer)

    def test_changed_plans(self):
        answers = {True: 0, False: 0}
        for game, saying in samples(60):
            paper = paper_for(game, saying)
            plan = plan_of(game, saying, paper)
            others = number_changes(plan, (-1, 0, 1, 2, 3)) + length_changes(plan, ())
            for other in others[:400]:
                answer = plainly_keeps(game, saying, paper, other)
                self.assertIs(plan_keeps(game, saying, paper, other), answer)
                answers[answer] += 1
        self.assertGreater(min(answers.values()), 100)


class HandedInTest(unittest.TestCase):
    def test_what_is_handed_in_stays_as_it_was(self):
        handed = copy.deepcopy((WIDE_GAME, WIDE_SAYING, WIDE_PAPER))
        plan_of(*handed)
        plan_keeps(*handed, WIDE_PLAN)
        self.assertEqual(repr(handed), repr((WIDE_GAME, WIDE_SAYING, WIDE_PAPER)))

    def test_asked_again_whatever_was_asked_between(self):
        for turn in range(3):
            self.assertEqual(repr(plan_of(WIDE_GAME, WIDE_SAYING, WIDE_PAPER)), repr(WIDE_PLAN))
            self.assertEqual(repr(plan_of(GAME, SAYING, PAPER)), repr(()))
            self.assertIs(plan_keeps(WIDE_GAME, WIDE_SAYING, WIDE_PAPER, WIDE_PLAN), True)
            self.assertIs(plan_keeps(WIDE_GAME, WIDE_SAYING, WIDE_PAPER, ()), False)


if __name__ == "__main__":
    unittest.main()
