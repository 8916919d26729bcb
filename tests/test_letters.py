import unittest

from nesthall.letters import Letters


def filled(most, events):
    """A Letters to which the events were added, and the answers to that."""
    letters = Letters(most)
    return letters, [letters.add(event) for event in events]


class Adding(unittest.TestCase):
    def test_a_new_one_is_empty(self):
        for most in range(13):
            with self.subTest(most):
                self.assertEqual(Letters(most).waiting(), [])
                self.assertIsNone(Letters(most).taken())

    def test_up_to_the_bound_and_beyond(self):
        for most in range(13):
            with self.subTest(most):
                letters, answers = filled(most, range(most + 3))
                self.assertEqual(answers, [True] * most + [False] * 3)
                self.assertEqual(letters.waiting(), list(range(most)))

    def test_the_answers_are_truths_themselves(self):
        for most in (0, 1, 12):
            with self.subTest(most):
                answers = filled(most, [0] * (most + 1))[1]
                for answer in answers[:most]:
                    self.assertIs(answer, True)
                self.assertIs(answers[most], False)

    def test_a_letter_is_put_behind_all_that_wait(self):
        letters = Letters(12)
        for count, event in enumerate((5, 0, 7, 3, 3, 1), start=1):
            letters.add(event)
            self.assertEqual(letters.waiting(), [5, 0, 7, 3, 3, 1][:count])

    def test_the_same_event_waits_several_times(self):
        letters, answers = filled(4, (2, 2, 3, 2, 2))
        self.assertEqual(answers, [True, True, True, True, False])
        self.assertEqual(letters.waiting(), [2, 2, 3, 2])
        self.assertEqual([letters.taken() for _ in range(5)], [2, 2, 3, 2, None])

    def test_a_lost_letter_changes_nothing(self):
        letters = filled(2, (4, 5))[0]
        self.assertIs(letters.add(6), False)
        self.assertIs(letters.add(4), False)
        self.assertEqual(letters.waiting(), [4, 5])


class Taking(unittest.TestCase):
    def test_until_none_waits_and_once_more(self):
        for most in (1, 2, 12):
            with self.subTest(most):
                letters = filled(most, range(10, 10 + most))[0]
                for count in range(most):
                    self.assertEqual(letters.taken(), 10 + count)
                    self.assertEqual(letters.waiting(), list(range(11 + count, 10 + most)))
                self.assertIsNone(letters.taken())
                self.assertIsNone(letters.taken())
                self.assertEqual(letters.waiting(), [])

    def test_event_nought_is_told_apart_from_none(self):
        letters = filled(1, (0,))[0]
        self.assertEqual(letters.taken(), 0)
        self.assertIsNone(letters.taken())

    def test_what_is_taken_is_a_whole_number(self):
        letters = filled(2, (0, 1))[0]
        self.assertIs(type(letters.taken()), int)
        self.assertIs(type(letters.taken()), int)

    def test_added_again_behind_that(self):
        for most in (1, 2, 12):
            with self.subTest(most):
                letters = filled(most, range(most))[0]
                while letters.taken() is not None:
                    pass
                self.assertEqual([letters.add(7) for _ in range(most + 1)], [True] * most + [False])
                self.assertEqual(letters.waiting(), [7] * most)

    def test_one_that_is_taken_makes_room_for_one(self):
        letters = filled(3, (1, 2, 3))[0]
        self.assertEqual(letters.taken(), 1)
        self.assertIs(letters.add(4), True)
        self.assertIs(letters.add(5), False)
        self.assertEqual(letters.waiting(), [2, 3, 4])

    def test_the_bound_counts_those_that_wait_not_all_that_came(self):
        letters = Letters(1)
        for event in range(30):
            self.assertIs(letters.add(event), True)
            self.assertIs(letters.add(event), False)
            self.assertEqual(letters.taken(), event)

    def test_a_bound_of_nought_lets_none_wait(self):
        letters = Letters(0)
        self.assertIs(letters.add(0), False)
        self.assertIsNone(letters.taken())
        self.assertIs(letters.add(1), False)
        self.assertEqual(letters.waiting(), [])


class Apart(unittest.TestCase):
    def test_two_beside_each_other(self):
        one, other = Letters(2), Letters(1)
        self.assertIs(one.add(1), True)
        self.assertIs(other.add(2), True)
        self.assertIs(one.add(3), True)
        self.assertIs(other.add(4), False)
        self.assertEqual((one.waiting(), other.waiting()), ([1, 3], [2]))
        self.assertEqual(other.taken(), 2)
        self.assertEqual((one.waiting(), other.waiting()), ([1, 3], []))

    def test_a_told_list_is_the_askers_own(self):
        letters = filled(2, (8,))[0]
        told = letters.waiting()
        self.assertIs(type(told), list)
        told.append(9)
        told[0] = 0
        self.assertEqual(letters.waiting(), [8])
        told = letters.waiting()
        letters.add(9)
        letters.taken()
        self.assertEqual(told, [8])
        self.assertEqual(letters.waiting(), [9])

    def test_an_empty_told_list_is_the_askers_own(self):
        letters = Letters(1)
        letters.waiting().append(5)
        self.assertEqual(letters.waiting(), [])
        self.assertIs(letters.add(1), True)
        self.assertEqual(letters.waiting(), [1])


if __name__ == "__main__":
    unittest.main()
