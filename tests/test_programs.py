import copy
import itertools
import unittest

from pileduel.errors import DuelError, NoProgram
from pileduel.programs import look_program, run_program
from plain import plain_run, some_program, some_runs

BACK = ("back",)
MARK = ("mark",)


class LookProgramTest(unittest.TestCase):
    def let_by(self, switches, *procedures):
        self.assertIs(look_program((switches, procedures)), True)

    def refused(self, at, switches, *procedures):
        with self.assertRaises(DuelError) as caught:
            look_program((switches, procedures))
        self.assertIs(type(caught.exception), NoProgram)
        self.assertEqual(repr((caught.exception.procedure, caught.exception.step)), repr(at), (switches, procedures))

    def test_each_word(self):
        for step in (("ask", 0, 0), ("chance", 0, 0), ("call", 0), BACK, MARK):
            self.let_by(0, (step,))
            self.let_by(1, (step,))
        self.let_by(1, (("set", 0),))
        self.let_by(1, (("if", 0, 0),))
        self.let_by(1, (("ask", 0, 3), ("chance", 2, 1), ("set", 1), ("if", 3, 0)), (("call", 2), BACK), (MARK,))

    def test_how_many_switches(self):
        for switches in (-10 ** 30, -1, 2, 3, 10 ** 30):
            self.refused((-1, -1), switches, (BACK,))
        for switches in (0, 1):
            self.let_by(switches, (BACK,))

    def test_how_many_procedures(self):
        self.refused((-1, -1), 0)
        for many in (1, 2, 3):
            self.let_by(0, *[(BACK,)] * many)
        for many in (4, 5):
            self.refused((-1, -1), 1, *[(BACK,)] * many)

    def test_how_many_steps(self):
        for many in (0, 5, 6):
            self.refused((-1, -1), 0, (BACK,) * many)
            for at in range(3):
                procedures = [(BACK,), (MARK,), (BACK,)]
                procedures[at] = (MARK,) * many
                self.refused((-1, -1), 1, *procedures)
        for many in (1, 2, 3, 4):
            self.let_by(0, (BACK,) * many)
            self.let_by(0, (BACK,), (MARK,) * many)

    def test_steps_that_are_there(self):
        for word, many in itertools.product(("ask", "chance", "if"), (1, 2, 3, 4)):
            rest = (BACK,) * (many - 1)
            for number in range(many):
                self.let_by(1, ((word, number, 0),) + rest)
                self.let_by(1, ((word, many - 1, number),) + rest)
            # The end behind the last step is no step, and other procedures' steps don't count.
            for number in (-10 ** 30, -many, -2, -1, many, many + 1, 10 ** 30):
                self.refused((0, 0), 1, ((word, number, 0),) + rest, (BACK,) * 4)
                self.refused((0, 0), 1, ((word, 0, number),) + rest, (BACK,) * 4)
                self.refused((1, many - 1), 1, (BACK,) * 4, rest + ((word, 0, number),))

    def test_procedures_that_are_there(self):
        for many in (1, 2, 3):
            others = [(BACK,) * 4] * (many - 1)
            for number in range(many):
                self.let_by(0, (("call", number),), *others)
            for number in (-10 ** 30, -many, -1, many, many + 1, 10 ** 30):
                self.refused((0, 1), 0, (BACK, ("call", number)), *others)

    def test_what_a_switch_is_set_to(self):
        for answer in (0, 1):
            self.let_by(1, (("set", answer),))
        for answer in (-10 ** 30, -2, -1, 2, 3, 10 ** 30):
            self.refused((0, 0), 1, (("set", answer),))

    def test_set_and_if_without_a_switch(self):
        for step in (("set", 0), ("set", 1), ("if", 0, 0), ("if", 1, 0)):
            self.let_by(1, (BACK, step))
            self.refused((0, 1), 0, (BACK, step))
            self.refused((2, 0), 0, (BACK,), (BACK,), (step, MARK))

    def test_the_first_of_several_faults(self):
        wrong = ("call", 7)
        for spots in itertools.product((False, True), repeat=6):
            if any(spots):
                steps = [wrong if spot else BACK for spot in spots]
                first = spots.index(True)
                self.refused((first // 2, first % 2), 0, tuple(steps[:2]), tuple(steps[2:4]), tuple(steps[4:]))
        # Whatever the fault is.
        self.refused((0, 1), 0, (BACK, ("set", 0)), (("ask", 9, 9),))
        self.refused((0, 0), 0, (("chance", 0, 5), ("set", 0)), (("ask", 9, 9),))
        self.refused((1, 0), 1, (BACK, ("set", 0)), (("set", 2), ("ask", 9, 9)))

    def test_sizes_ahead_of_all(self):
        wrong = ("ask", 9, 9)
        self.refused((-1, -1), 2, (wrong,))
        self.refused((-1, -1), -1, (wrong,))
        self.refused((-1, -1), 0, (wrong,), ())
        self.refused((-1, -1), 0, (wrong,), (BACK,) * 5)
        self.refused((-1, -1), 0, (wrong,), (BACK,), (BACK,), (BACK,))

    def test_drawn_ones(self):
        for seed in range(200):
            switches, procedures = some_program(seed)
            self.let_by(switches, *procedures)


class RunCase(unittest.TestCase):
    def told(self, program, choices, most, word, steps):
        self.assertEqual(repr(run_program(program, choices, most)), repr((word, steps)), (program, choices, most))


class RunProgramTest(RunCase):
    def test_a_mark(self):
        self.told((0, ((MARK,),)), (), 60, "marked", 1)
        self.told((0, ((MARK,),)), (), 1, "marked", 1)
        self.told((0, ((("ask", 0, 1), MARK),)), (1,), 60, "marked", 2)
        self.told((0, ((("call", 1), BACK), (("call", 2),), (MARK, BACK))), (), 60, "marked", 3)

    def test_a_back_of_procedure_0_ends_it(self):
        self.told((0, ((BACK,),)), (), 60, "over", 1)
        self.told((0, ((BACK, MARK),)), (), 60, "over", 1)
        # Called by itself, only its outermost back does.
        self.told((0, ((("ask", 1, 3), ("call", 0), MARK, BACK),)), (0, 1), 60, "marked", 5)
        self.told((0, ((("ask", 1, 2), ("call", 0), BACK),)), (0, 0, 1), 60, "over", 8)

    def test_the_end_behind_the_last_step_is_as_back_and_no_step(self):
        self.told((1, ((("set", 1),),)), (), 60, "over", 1)
        self.told((0, ((("call", 1),), (BACK,))), (), 60, "over", 2)
        self.told((1, ((("call", 1),), (("set", 0),))), (), 60, "over", 2)
        # In a call: on behind it.
        self.told((1, ((("call", 1), MARK), (("set", 0),))), (), 60, "marked", 3)
        # Several ends, one behind the other.
        self.told((1, ((("call", 1),), (("call", 2),), (("set", 1),))), (), 60, "over", 3)
        self.told((1, ((("call", 1), MARK), (("call", 2),), (("set", 1),))), (), 60, "marked", 4)

    def test_a_back_in_a_call(self):
        self.told((0, ((("call", 1), MARK), (BACK, MARK))), (), 60, "marked", 3)
        self.told((0, ((("call", 1), ("call", 1), BACK), (BACK,))), (), 60, "over", 5)

    def test_calls_one_within_another(self):
        program = (0, ((("call", 1), ("call", 2), MARK), (("call", 2), BACK), (BACK,)))
        self.told(program, (), 60, "marked", 7)

    def test_a_procedure_that_calls_itself(self):
        program = (0, ((("call", 1), MARK), (("ask", 1, 2), ("call", 1), BACK)))
        for depth in range(10):
            # In: two steps for each call; out: one back for each, one more for the outermost.
            self.told(program, (0,) * depth + (1,), 60, "marked", 1 + 2 * depth + 1 + depth + 1 + 1)
        self.told((0, ((("call", 0),),)), (), 60, "more", 60)

    def test_a_switch_set_and_asked(self):
        # To the mark where it is 1, to the back where it is 0; at first it is 0.
        self.told((1, ((("if", 1, 2), MARK, BACK),)), (), 60, "over", 2)
        for answer, word in ((0, "over"), (1, "marked")):
            self.told((1, ((("set", answer), ("if", 2, 3), MARK, BACK),)), (), 60, word, 3)
            # Set in a call, it stays set behind it.
            self.told((1, ((("call", 1), ("if", 2, 3), MARK, BACK), (("set", answer), BACK))), (), 60, word, 5)
        self.told((1, ((("set", 1), ("call", 1), ("if", 3, 2), MARK), (("set", 0),))), (), 60, "more", 60)
        self.told((1, ((("set", 1), ("set", 0), ("if", 0, 3), MARK),)), (), 60, "marked", 4)

    def test_ask_and_chance_take_the_next_choice(self):
        for word in ("ask", "chance"):
            program = (0, (((word, 1, 2), BACK, MARK),))
            self.told(program, (0,), 60, "over", 2)
            self.told(program, (1,), 60, "marked", 2)
        program = (0, ((("ask", 1, 2), ("chance", 2, 3), ("ask", 0, 3), MARK),))
        self.told(program, (0, 1), 60, "marked", 3)
        self.told(program, (1, 1), 60, "marked", 3)
        self.told(program, (0, 0, 1), 60, "marked", 4)
        self.told(program, (1, 0, 0, 0, 1), 60, "marked", 6)

    def test_as_many_choices_as_needed_one_fewer_and_more(self):
        program = (0, ((("ask", 1, 0), ("chance", 2, 0), MARK),))
        self.told(program, (0, 0), 60, "marked", 3)
        self.told(program, (0, 0, 1, 1, 0), 60, "marked", 3)
        self.told(program, (0,), 60, "lacks", 1)
        self.told(program, (), 60, "lacks", 0)
        self.told(program, (1, 1, 1), 60, "lacks", 3)
        self.told((1, ((("set", 1), ("chance", 0, 0)),)), (), 60, "lacks", 1)
        self.told((0, ((("ask", 0, 0),),)), (0, 1) * 30, 60, "more", 60)
        self.told((0, ((("ask", 0, 0),),)), (0, 1) * 29 + (1,), 60, "lacks", 59)

    def test_most_as_many_as_the_steps_one_fewer_and_one_more(self):
        for program, word, steps in (
            ((0, ((("call", 1), MARK), (BACK,))), "marked", 3),
            ((0, ((("call", 1), BACK), (BACK,))), "over", 3),
            ((1, ((("set", 1), ("set", 0), ("call", 1)), (("set", 1),))), "over", 4),
        ):
            self.told(program, (), steps + 1, word, steps)
            self.told(program, (), steps, word, steps)
            for most in range(1, steps):
                self.told(program, (), most, "more", most)

    def test_over_ahead_of_more(self):
        self.told((0, ((BACK,),)), (), 1, "over", 1)
        self.told((1, ((("set", 1),),)), (), 1, "over", 1)
        self.told((1, ((("call", 1),), (("set", 1),))), (), 2, "over", 2)
        # The back itself isn't done yet.
        self.told((1, ((("set", 1), BACK),)), (), 1, "more", 1)

    def test_more_ahead_of_lacks(self):
        program = (1, ((("set", 1), ("ask", 0, 0)),))
        self.told(program, (), 1, "more", 1)
        self.told(program, (), 2, "lacks", 1)
        self.told(program, (0,), 2, "more", 2)
        self.told(program, (0,), 3, "more", 3)
        self.told(program, (0,), 4, "lacks", 3)

    def test_more_ahead_of_a_mark(self):
        program = (1, ((("set", 1), MARK),))
        self.told(program, (), 1, "more", 1)
        self.told(program, (), 2, "marked", 2)

    def test_an_endless_one(self):
        for most in (1, 2, 59, 60):
            self.told((1, ((("if", 0, 0),),)), (), most, "more", most)

    def test_somewhat_beyond_the_bounds(self):
        self.told((0, ((("call", 3), MARK), (BACK,), (BACK,), (("call", 1),) * 6)), (), 100, "marked", 14)
        self.told((0, ((("ask", 0, 1), MARK),)), (0,) * 80 + (1,), 90, "marked", 82)

    def test_as_gone_through_step_by_step(self):
        seen = {}
        for program, choices, most in some_runs(1500):
            word, steps = plain_run(program, choices, most)
            self.told(program, choices, most, word, steps)
            seen[word] = seen.get(word, 0) + 1
        self.assertGreater(min(seen.values()), 300)
        self.assertEqual(len(seen), 4)


class HandedInTest(RunCase):
    def test_what_is_handed_in_stays_as_it_was(self):
        program = (1, ((("ask", 1, 2), ("call", 1), ("if", 0, 3), MARK), (("set", 1),)))
        handed = copy.deepcopy((program, (0, 1, 1), 30))
        look_program(handed[0])
        run_program(*handed)
        self.assertEqual(repr(handed), repr((program, (0, 1, 1), 30)))

    def test_asked_again_whatever_was_asked_between(self):
        for turn in range(3):
            # The switch that one run sets is at first 0 in the next one.
            self.told((1, ((("set", 1), ("if", 2, 3), MARK, BACK),)), (), 60, "marked", 3)
            self.told((1, ((("if", 1, 2), MARK, BACK),)), (), 60, "over", 2)


if __name__ == "__main__":
    unittest.main()
