"""Point [2] and errors.py: the errors, their fields, and which stands below which."""

from onelongturn import errors
from tests.support import ANY_VALUES, FIELDS, Checks

BELOW_BAD_INPUT = (
    "BadDay", "BadName", "BadNumber", "BadClocks", "BadTrip", "BadTable", "BadPauses", "BadPlan", "BadAsk",
    "BadText", "BadLine",
)
BELOW_REFUSED = (
    "NoTrip", "NoPlace", "Twice", "OutOfDay", "Unbalanced", "Unlike", "Spare", "TooMany", "Lacking",
)


class TestErrors(Checks):
    def test_fields_by_position_and_by_name(self):
        for word, fields in FIELDS.items():
            kind = getattr(errors, word)
            for value in ANY_VALUES:
                told = [value] + ["other"] * (len(fields) - 1)
                by_position = kind(*told)
                by_name = kind(**dict(zip(fields, told)))
                for error in (by_position, by_name):
                    for field, worth in zip(fields, told):
                        self.assertIs(getattr(error, field), worth)

    def test_fields_keep_their_order(self):
        error = errors.BadText(3, 4)
        self.same((error.line, error.word), (3, 4))
        error = errors.TooMany("trips", 40)
        self.same((error.what, error.most), ("trips", 40))

    def test_a_field_too_few_or_too_many(self):
        for word, fields in FIELDS.items():
            kind = getattr(errors, word)
            with self.assertRaises(TypeError):
                kind(*[1] * (len(fields) - 1))
            with self.assertRaises(TypeError):
                kind(*[1] * (len(fields) + 1))

    def test_the_field_is_the_very_value(self):
        rows = [1]
        error = errors.BadNumber(rows)
        rows.append(2)
        self.assertIs(error.value, rows)

    def test_which_stands_below_which(self):
        self.assertEqual(errors.TurnError.__bases__, (ValueError,))
        self.assertEqual(errors.BadInput.__bases__, (errors.TurnError,))
        self.assertEqual(errors.Refused.__bases__, (errors.TurnError,))
        for word in BELOW_BAD_INPUT:
            self.assertEqual(getattr(errors, word).__bases__, (errors.BadInput,))
        for word in BELOW_REFUSED:
            self.assertEqual(getattr(errors, word).__bases__, (errors.Refused,))

    def test_none_stands_below_another_one(self):
        for word in FIELDS:
            for other in FIELDS:
                below = issubclass(getattr(errors, word), getattr(errors, other))
                self.assertEqual(below, word == other, (word, other))
            for other in (LookupError, TypeError, ArithmeticError, RuntimeError, UnicodeError, AttributeError):
                self.assertFalse(issubclass(getattr(errors, word), other))

    def test_the_lists_are_whole(self):
        self.assertEqual(set(FIELDS), set(BELOW_BAD_INPUT + BELOW_REFUSED))
        kinds = [word for word, kind in vars(errors).items() if isinstance(kind, type)]
        self.assertEqual(set(kinds), set(FIELDS) | {"TurnError", "BadInput", "Refused"})

    def test_the_bases_are_made_without_fields(self):
        for kind in (errors.TurnError, errors.BadInput, errors.Refused):
            self.assertIsInstance(kind(), ValueError)
