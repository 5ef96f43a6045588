import unittest

from tiedtables import errors

# For each class its fields, in order, with a value for each.
FIELDS = {
    "Taken": (("table", "beds"), ("key", 3)),
    "NoRow": (("table", "beds"), ("key", -4)),
    "Barred": (("tie", "sleeps"), ("key", 0)),
    "Parted": (("table", "beds"), ("key", 7), ("column", "room")),
    "Loose": (("pairs", [("sleeps", 3), ("owns", -1)]),),
    "Stopped": (("rule", "full"), ("table", "beds"), ("key", 3)),
    "NoKey": (("rule", "full"),),
    "TooMany": (("most", 40),),
    "Ring": (("ring", ["full", "bare"]),),
    "BadLine": (("line", 0),),
    "Open": (),
    "NotOpen": (),
    "NoSuch": (("what", "table"), ("name", "beds")),
}
UNDER_TABLE_ERROR = [name for name in FIELDS if name != "NoSuch"]


class FieldsTest(unittest.TestCase):
    def assert_fields(self, error, fields):
        for field, value in fields:
            told = getattr(error, field)
            self.assertEqual(told, value)
            self.assertIs(type(told), type(value))

    def test_fields_are_taken_by_place(self):
        for name, fields in FIELDS.items():
            with self.subTest(name=name):
                made = getattr(errors, name)(*[value for _, value in fields])
                self.assert_fields(made, fields)

    def test_fields_are_taken_by_name(self):
        for name, fields in FIELDS.items():
            with self.subTest(name=name):
                made = getattr(errors, name)(**dict(fields))
                self.assert_fields(made, fields)

    def test_a_field_too_few_or_too_many_is_no_error_of_that_class(self):
        for name, fields in FIELDS.items():
            if not fields:
                continue
            values = [value for _, value in fields]
            with self.subTest(name=name):
                self.assertRaises(TypeError, getattr(errors, name), *values[:-1])
                self.assertRaises(TypeError, getattr(errors, name), *values, 1)

    def test_fields_hold_nothing_and_numbers_as_they_are(self):
        self.assertIsNone(errors.NoRow("beds", None).key)
        self.assertEqual(errors.Taken("beds", 10 ** 20).key, 10 ** 20)
        self.assertEqual(errors.NoSuch("entry", 12).name, 12)

    def test_raised_errors_keep_their_fields(self):
        for name, fields in FIELDS.items():
            made = getattr(errors, name)
            with self.subTest(name=name):
                with self.assertRaises(made) as caught:
                    raise made(*[value for _, value in fields])
                self.assert_fields(caught.exception, fields)


class HandedInTest(unittest.TestCase):
    def test_pairs_are_not_kept(self):
        pairs = [("sleeps", 3), ("owns", -1)]
        error = errors.Loose(pairs)
        pairs.append(("sleeps", 4))
        self.assertEqual(error.pairs, [("sleeps", 3), ("owns", -1)])

    def test_pairs_told_by_lists_or_tuples_are_a_list_of_tuples(self):
        inner = ["sleeps", 3]
        error = errors.Loose((inner, ("owns", -1)))
        inner[1] = 4
        self.assertEqual(error.pairs, [("sleeps", 3), ("owns", -1)])
        self.assertIs(type(error.pairs), list)

    def test_the_ring_is_not_kept(self):
        ring = ["full", "bare"]
        error = errors.Ring(ring)
        ring.append("more")
        self.assertEqual(error.ring, ["full", "bare"])

    def test_a_ring_told_by_a_tuple_is_a_list(self):
        self.assertEqual(errors.Ring(("full",)).ring, ["full"])

    def test_nothing_handed_in_is_changed(self):
        pairs = [["sleeps", 3]]
        ring = ["full"]
        errors.Loose(pairs).pairs.append(("owns", 1))
        errors.Ring(ring).ring.append("bare")
        self.assertEqual((pairs, ring), ([["sleeps", 3]], ["full"]))


class StandingTest(unittest.TestCase):
    def test_table_error_stands_straight_under_value_error(self):
        self.assertEqual(errors.TableError.__bases__, (ValueError,))

    def test_the_others_stand_straight_under_table_error(self):
        for name in UNDER_TABLE_ERROR:
            with self.subTest(name=name):
                self.assertEqual(getattr(errors, name).__bases__, (errors.TableError,))

    def test_no_such_stands_straight_under_lookup_error(self):
        self.assertEqual(errors.NoSuch.__bases__, (LookupError,))
        self.assertFalse(issubclass(errors.NoSuch, ValueError))

    def test_table_errors_are_no_lookup_errors(self):
        for name in UNDER_TABLE_ERROR + ["TableError"]:
            with self.subTest(name=name):
                self.assertFalse(issubclass(getattr(errors, name), LookupError))

    def test_none_stands_under_another(self):
        for name in FIELDS:
            for other in FIELDS:
                if name == other:
                    continue
                with self.subTest(name=name, other=other):
                    self.assertFalse(
                        issubclass(getattr(errors, name), getattr(errors, other)))
