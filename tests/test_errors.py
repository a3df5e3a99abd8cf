import unittest

from pileduel.errors import DuelError, NoFit, NoGame, NoPaper, NoProgram, NoRow, NoSaying, NoText, TooMany

REFUSALS = (
    (NoText, {"row": 3}),
    (NoGame, {"word": "places", "at": 4}),
    (NoSaying, {"at": -1}),
    (TooMany, {"most": 200}),
    (NoPaper, {"at": 7}),
    (NoFit, {}),
    (NoProgram, {"procedure": -1, "step": -2}),
    (NoRow, {}),
)


class RefusalsTest(unittest.TestCase):
    def test_each_keeps_its_fields(self):
        for refusal, fields in REFUSALS:
            made = refusal(*fields.values())
            self.assertEqual(vars(made), fields, refusal)

    def test_each_is_made_with_just_its_fields(self):
        for refusal, fields in REFUSALS:
            if fields:
                with self.assertRaises(TypeError):
                    refusal(*list(fields.values())[1:])
                with self.assertRaises(TypeError):
                    refusal(*fields.values(), 0)

    def test_each_stands_right_under_the_one_above_all(self):
        self.assertEqual(DuelError.__bases__, (ValueError,))
        for refusal, fields in REFUSALS:
            self.assertEqual(refusal.__bases__, (DuelError,))

    def test_each_is_taken_as_any_refusal_and_as_none_of_the_others(self):
        for refusal, fields in REFUSALS:
            made = refusal(*fields.values())
            self.assertIsInstance(made, DuelError)
            self.assertIsInstance(made, ValueError)
            for other, other_fields in REFUSALS:
                self.assertEqual(isinstance(made, other), other is refusal)

    def test_each_can_be_raised_and_taken(self):
        for refusal, fields in REFUSALS:
            with self.assertRaises(ValueError) as taken:
                raise refusal(*fields.values())
            self.assertIs(taken.exception.__class__, refusal)
            self.assertEqual(vars(taken.exception), fields)


if __name__ == "__main__":
    unittest.main()
