"""hopline.errors: the classes of refusals, as the interface lists them."""

import unittest

from hopline import errors

UNDER = ["NoNumber", "NoRow", "NoPace", "NoStep", "NoWord", "NoPlace", "NoHeap", "TooMany", "NoWay", "NoLines",
         "NoRing", "BadRow"]
BESIDE = [("ByNought", ZeroDivisionError), ("NoWall", IndexError), ("NoName", KeyError)]


class TestErrors(unittest.TestCase):

    def test_hop_error_is_a_value_error(self):
        self.assertEqual(errors.HopError.__bases__, (ValueError,))
        self.assertIsInstance(errors.HopError("why"), ValueError)

    def test_twelve_stand_straight_under_it(self):
        for name in UNDER:
            with self.subTest(name):
                self.assertEqual(getattr(errors, name).__bases__, (errors.HopError,))

    def test_three_stand_beside_it(self):
        for name, base in BESIDE:
            with self.subTest(name):
                found = getattr(errors, name)
                self.assertEqual(found.__bases__, (base,))
                self.assertFalse(issubclass(found, errors.HopError))

    def test_all_are_unlike(self):
        found = {getattr(errors, name) for name in UNDER + [name for name, base in BESIDE]}
        self.assertEqual(len(found), 15)

    def test_made_of_a_text_and_raised(self):
        for name in UNDER + ["HopError", "ByNought"]:
            with self.subTest(name):
                found = getattr(errors, name)
                with self.assertRaises(found) as caught:
                    raise found("why it is so")
                self.assertIn("why it is so", str(caught.exception))

    def test_fields_are_just_what_they_were_made_of(self):
        for thing in [0, -1, 7, True, False, None, "", "ab", [1, [2]], (1,), {1: 2}, object(), int]:
            with self.subTest(thing=repr(thing)):
                self.assertIs(errors.NoWall(thing).wall, thing)
                self.assertIs(errors.NoName(thing).name, thing)
                self.assertIs(errors.NoWall(wall=thing).wall, thing)
                self.assertIs(errors.NoName(name=thing).name, thing)
                with self.assertRaises(IndexError) as wall_caught:
                    raise errors.NoWall(thing)
                self.assertIs(wall_caught.exception.wall, thing)
                with self.assertRaises(KeyError) as name_caught:
                    raise errors.NoName(thing)
                self.assertIs(name_caught.exception.name, thing)


if __name__ == "__main__":
    unittest.main()
