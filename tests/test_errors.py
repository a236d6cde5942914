import unittest

from votesway.errors import BadCrowd, BadNote, BadSize, BadWeights, NoMember, Unlike, VoteError

REFUSALS = (BadCrowd, BadSize, NoMember, BadWeights, Unlike, BadNote)


class Errors(unittest.TestCase):
    def test_names(self):
        names = [refusal.__name__ for refusal in REFUSALS + (VoteError,)]
        self.assertEqual(names, ["BadCrowd", "BadSize", "NoMember", "BadWeights", "Unlike", "BadNote", "VoteError"])

    def test_vote_error_stands_under_value_error(self):
        self.assertEqual(VoteError.__bases__, (ValueError,))

    def test_each_refusal_stands_under_vote_error(self):
        for refusal in REFUSALS:
            with self.subTest(refusal=refusal):
                self.assertTrue(issubclass(refusal, VoteError))
                self.assertTrue(issubclass(refusal, ValueError))
                self.assertFalse(issubclass(VoteError, refusal))

    def test_none_stands_under_another(self):
        for one in REFUSALS:
            for other in REFUSALS:
                with self.subTest(one=one, other=other):
                    self.assertEqual(issubclass(one, other), one is other)

    def test_raised_and_taken(self):
        for refusal in REFUSALS:
            for taken in (refusal, VoteError, ValueError):
                with self.subTest(refusal=refusal, taken=taken), self.assertRaises(taken):
                    raise refusal("words")


if __name__ == "__main__":
    unittest.main()
