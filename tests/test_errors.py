import unittest

from slumberway import errors

FIELDS = {
    "NoCount": (),
    "NoKinds": (),
    "NoStep": (),
    "NoPlace": (),
    "BadRow": (),
    "TooMany": (),
    "NoBack": (),
    "NoSign": ("place",),
    "NoReading": ("place", "wants"),
    "Twice": ("later", "earlier"),
    "Counts": ("place",),
    "Parts": ("place",),
    "Unknown": ("place", "word"),
    "Clash": ("place", "one", "other"),
    "Endless": ("place", "one", "other"),
    "Broken": ("wrong",),
    "NoProgram": ("wrong",),
    "NoTurn": ("wrong",),
    "NoAddress": ("address",),
    "NoName": ("name",),
    "NoText": ("row", "spot"),
}


class Errors(unittest.TestCase):
    def test_base(self):
        self.assertEqual(errors.SlumberError.__bases__, (ValueError,))
        self.assertEqual(vars(errors.SlumberError()), {})

    def test_each_stands_straight_under_the_base(self):
        for name in FIELDS:
            kind = getattr(errors, name)
            self.assertEqual(kind.__bases__, (errors.SlumberError,), name)
            self.assertEqual(kind.__module__, "slumberway.errors", name)

    def test_each_has_just_its_fields(self):
        for name, fields in FIELDS.items():
            kind = getattr(errors, name)
            told = {field: (number, field) for number, field in enumerate(fields)}
            self.assertEqual(vars(kind(*told.values())), told, name)
            self.assertEqual(vars(kind(**told)), told, name)

    def test_a_field_that_is_left_out_is_refused(self):
        for name, fields in FIELDS.items():
            if fields:
                with self.assertRaises(TypeError, msg=name):
                    getattr(errors, name)()

    def test_none_beside_them(self):
        kinds = {name for name, thing in vars(errors).items() if isinstance(thing, type)}
        self.assertEqual(kinds, {"SlumberError", *FIELDS})


if __name__ == "__main__":
    unittest.main()
