import unittest

from quotientcells import errors

WITH_THING = (
    "BadScheme", "BadDigits", "BadLook", "BadMachine", "BadOperands",
    "BadNumber", "BadMode", "BadCell", "BadLogic",
)
ALL = WITH_THING + ("BadText",)


class ErrorsTest(unittest.TestCase):
    def test_base_class_derives_from_exception_alone(self):
        self.assertEqual(errors.DividerError.__bases__, (Exception,))
        self.assertEqual(errors.DividerError.__module__, "quotientcells.errors")

    def test_each_error_is_a_direct_subclass(self):
        for name in ALL:
            found = getattr(errors, name)
            self.assertEqual(found.__name__, name)
            self.assertEqual(found.__bases__, (errors.DividerError,), name)
            self.assertEqual(found.__module__, "quotientcells.errors", name)

    def test_thing_is_an_attribute(self):
        values = [0, True, None, "", "x", (1, [2]), [1, {"a": None}], {"k": ()}, 10 ** 40]
        for name in WITH_THING:
            for thing in values:
                found = getattr(errors, name)
                self.assertIs(found(thing).thing, thing, name)
                self.assertIs(found(thing=thing).thing, thing, name)

    def test_at_is_an_attribute(self):
        for at in (0, 1, 17, None, "x", [2]):
            self.assertIs(errors.BadText(at).at, at)
            self.assertIs(errors.BadText(at=at).at, at)

    def test_parameter_is_needed(self):
        for name in ALL:
            with self.assertRaises(TypeError):
                getattr(errors, name)()
            with self.assertRaises(TypeError):
                getattr(errors, name)(1, 2)

    def test_parameter_names(self):
        with self.assertRaises(TypeError):
            errors.BadText(thing=1)
        for name in WITH_THING:
            with self.assertRaises(TypeError):
                getattr(errors, name)(at=1)

    def test_each_object_has_its_own_attribute(self):
        one, other = errors.BadNumber(1), errors.BadNumber(2)
        self.assertEqual((one.thing, other.thing), (1, 2))

    def test_raised_and_caught(self):
        for name in ALL:
            with self.assertRaises(errors.DividerError) as caught:
                raise getattr(errors, name)((1, 2))
            self.assertEqual(type(caught.exception).__name__, name)


if __name__ == "__main__":
    unittest.main()
