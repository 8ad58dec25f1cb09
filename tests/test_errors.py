import unittest

from gluedlines import errors

ARGUMENTS = {
    "NoForm": ("at",), "NoText": ("text",), "NoGrammar": ("part", "at"), "NoCrew": ("at",), "NoRows": ("at",),
    "NoRule": ("field",), "NotRight": ("word",), "NotEnough": ("needed",), "NoOutput": ("at",), "NoChange": ("at",),
    "NoRow": ("row",),
}


class ErrorsTest(unittest.TestCase):
    def test_bases(self):
        self.assertEqual(errors.GlueError.__bases__, (ValueError,))
        self.assertEqual(errors.NoName.__bases__, (KeyError,))
        for name in ARGUMENTS:
            self.assertEqual(getattr(errors, name).__bases__, (errors.GlueError,), name)

    def test_arguments_are_attributes(self):
        for name, fields in list(ARGUMENTS.items()) + [("NoName", ("name",))]:
            values = tuple(f"value {k}" for k in range(len(fields)))
            error = getattr(errors, name)(*values)
            self.assertEqual(tuple(getattr(error, field) for field in fields), values, name)
            error = getattr(errors, name)(**dict(zip(fields, values)))
            self.assertEqual(tuple(getattr(error, field) for field in fields), values, name)

    def test_values_stay_as_they_are(self):
        self.assertIsNone(errors.NoForm(None).at)
        self.assertEqual(errors.NoForm(3).at, 3)
        self.assertIsNone(errors.NoGrammar("nodes", None).at)
        self.assertIsNone(errors.NotEnough(None).needed)

    def test_they_can_be_caught(self):
        for name, fields in ARGUMENTS.items():
            with self.assertRaises(errors.GlueError):
                raise getattr(errors, name)(*fields)
        with self.assertRaises(KeyError) as caught:
            raise errors.NoName("x")
        self.assertNotIsInstance(caught.exception, errors.GlueError)


if __name__ == "__main__":
    unittest.main()
