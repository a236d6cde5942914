"""What the tests of several files ask of a council and of a refusal."""

import unittest

import reference


class CouncilCase(unittest.TestCase):
    def assert_refused(self, refusal, call, *args):
        with self.assertRaises(refusal) as caught:
            call(*args)
        self.assertIs(type(caught.exception), refusal)

    def assert_tells(self, council, many, told):
        self.assertEqual(council.many(), many)
        self.assertEqual(council.least(), reference.least(many, told))
        for crowd in reference.crowds_of(many):
            self.assertIs(council.carries(crowd), reference.carries(told, crowd))

    def assert_same(self, one, other):
        self.assertEqual((one.many(), one.least()), (other.many(), other.least()))
