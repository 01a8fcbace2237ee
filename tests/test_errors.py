import unittest

from alljourneys import errors

FIELDS = {
    "BadText": ("line", "column"), "BadName": ("name",), "BadNumber": ("what", "number"), "BadPlace": ("what",),
    "BadSheet": ("what",), "BadJourney": ("index",), "NoSpot": ("name",), "NoRoad": ("name",), "NoMap": ("name",),
    "TakenName": ("name",), "TooMany": ("what", "many", "limit"), "TooLarge": ("what", "number", "limit"),
    "NotAround": (), "Unlike": ("what",), "BadPromise": ("promise",), "NotKept": ("promise",),
    "Broken": ("promise", "place"), "NothingToUndo": (), "NothingToRedo": (),
}


class ErrorsTest(unittest.TestCase):
    """Promise [3]."""

    def test_base(self):
        self.assertTrue(issubclass(errors.JourneyError, ValueError))
        self.assertEqual(errors.JourneyError.__bases__, (ValueError,))

    def test_each(self):
        for name, fields in FIELDS.items():
            kind = getattr(errors, name)
            self.assertEqual(kind.__bases__, (errors.JourneyError,), name)
            values = [[field, {}] for field in fields]
            error = kind(*values)
            for field, value in zip(fields, values):
                self.assertIs(getattr(error, field), value)
            if fields:
                with self.assertRaises(TypeError):
                    kind()

    def test_all_are_told(self):
        told = {name for name in vars(errors) if isinstance(vars(errors)[name], type)}
        self.assertEqual(told, set(FIELDS) | {"JourneyError"})


if __name__ == "__main__":
    unittest.main()
