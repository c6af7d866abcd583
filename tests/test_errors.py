import unittest

from streamwrights import errors

NAMES = {
    "BadFormat": ("part",), "BadText": ("place",), "BadTranslator": ("part",), "NotSure": ("paper",),
    "BadReader": ("part",), "Drifts": ("drift",), "BadPiece": ("place",), "NoAnswer": ("text",), "NoRest": ("text",),
    "BadMarking": ("part",), "OtherTable": (), "BadPlace": ("place",), "BadWord": ("text",),
    "Silent": ("text", "loop", "rest"), "Twins": ("text", "other", "answer"), "BadLine": ("part",),
    "OtherTexts": ("text",), "OtherNumber": (), "Stops": ("index", "text"), "BadName": ("name",), "NoName": ("name",),
    "NotAlike": ("text",), "NothingToUndo": (), "NothingToRedo": (), "InvalidCommand": (),
}


class ErrorsTest(unittest.TestCase):

    def test_each_error_is_a_direct_subclass_with_its_parameters_as_attributes(self):
        self.assertEqual(len(NAMES), 25)
        self.assertEqual(errors.StreamError.__bases__, (Exception,))
        for name, params in NAMES.items():
            kind = getattr(errors, name)
            self.assertEqual(kind.__bases__, (errors.StreamError,), name)
            values = [object() for _ in params]
            by_name = dict(zip(params, values))
            for error in (kind(*values), kind(**by_name)):
                self.assertEqual({param: getattr(error, param) for param in params}, by_name, name)
            if params:
                with self.assertRaises(TypeError):
                    kind()

    def test_there_are_no_further_errors(self):
        kinds = {name for name, kind in vars(errors).items() if isinstance(kind, type)}
        self.assertEqual(kinds, set(NAMES) | {"StreamError"})

    def test_parameters_can_be_any_values(self):
        for value in (None, [1], {"a": 2}, (), True):
            self.assertIs(errors.BadFormat(value).part, value)


if __name__ == "__main__":
    unittest.main()
