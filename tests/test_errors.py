import unittest

from nesthall.errors import BadChart, NestError, NoEvent, NoName, NoRow, NoWords, TooWide, Unread

SEVEN = (BadChart, NoEvent, TooWide, NoWords, Unread, NoRow, NoName)


def example(refusal):
    """An object of the class, made with what its field asks."""
    if refusal in (BadChart, TooWide):
        return refusal([])
    if refusal in (NoEvent, Unread):
        return refusal(1)
    return refusal()


class Classes(unittest.TestCase):
    def test_a_nest_error_is_a_value_error(self):
        self.assertEqual(NestError.__bases__, (ValueError,))
        with self.assertRaises(ValueError):
            raise NestError("refused")

    def test_each_stands_under_nest_error(self):
        for refusal in SEVEN:
            with self.subTest(refusal.__name__):
                self.assertTrue(issubclass(refusal, NestError))
                with self.assertRaises(NestError):
                    raise example(refusal)

    def test_none_stands_under_another(self):
        for one in SEVEN:
            for other in SEVEN:
                if one is not other:
                    with self.subTest(f"{one.__name__} {other.__name__}"):
                        self.assertFalse(issubclass(one, other))
                        self.assertNotIsInstance(example(one), other)

    def test_each_is_known_by_its_name(self):
        names = ["BadChart", "NoEvent", "TooWide", "NoWords", "Unread", "NoRow", "NoName"]
        self.assertEqual([refusal.__name__ for refusal in SEVEN], names)
        self.assertEqual(NestError.__name__, "NestError")

    def test_those_without_a_field_may_bear_words(self):
        for refusal in (NestError, NoWords, NoRow, NoName):
            with self.subTest(refusal.__name__):
                self.assertEqual(str(refusal("some words")), "some words")
                self.assertEqual(str(refusal()), "")


class Fields(unittest.TestCase):
    def test_bad_chart_bears_the_faults(self):
        for faults in ([], [("order", 0)], [("box", 2), ("room", 0), ("room", 0)]):
            with self.subTest(faults):
                refusal = BadChart(list(faults))
                self.assertEqual(refusal.faults, faults)
                self.assertIs(type(refusal.faults), list)

    def test_no_event_bears_the_event(self):
        for event in (0, -1, 8, 10 ** 30, -10 ** 299):
            with self.subTest(event):
                self.assertEqual(NoEvent(event).event, event)

    def test_too_wide_bears_the_ways(self):
        for ways in ([], [()], [(), (0,), (1, 0)]):
            with self.subTest(ways):
                refusal = TooWide(list(ways))
                self.assertEqual(refusal.ways, ways)
                self.assertIs(type(refusal.ways), list)

    def test_unread_bears_the_row(self):
        for row in (1, 2, 1000):
            with self.subTest(row):
                self.assertEqual(Unread(row).row, row)

    def test_the_field_is_there_where_it_is_taken(self):
        for refusal, field, value in (
            (BadChart, "faults", [("turns", 0)]),
            (NoEvent, "event", 3),
            (TooWide, "ways", [(), (0,)]),
            (Unread, "row", 4),
        ):
            with self.subTest(field):
                with self.assertRaises(refusal) as taken:
                    raise refusal(value)
                self.assertEqual(getattr(taken.exception, field), value)


class OwnLists(unittest.TestCase):
    def test_a_list_that_is_changed_later_changes_no_refusal(self):
        for refusal, field, item in ((BadChart, "faults", ("order", 0)), (TooWide, "ways", (0,))):
            with self.subTest(field):
                handed = [item]
                made = refusal(handed)
                words, arguments = str(made), repr(made.args)
                handed.append(item)
                handed[0] = None
                self.assertEqual(getattr(made, field), [item])
                self.assertEqual((str(made), repr(made.args)), (words, arguments))

    def test_a_change_to_what_is_borne_changes_nothing_else(self):
        for refusal, field, item in ((BadChart, "faults", ("order", 0)), (TooWide, "ways", (0,))):
            with self.subTest(field):
                handed = [item]
                one, other = refusal(handed), refusal(handed)
                getattr(one, field).append(None)
                self.assertEqual(handed, [item])
                self.assertEqual(getattr(other, field), [item])
                self.assertEqual(getattr(refusal(handed), field), [item])

    def test_two_refusals_without_anything_share_no_list(self):
        for refusal, field in ((BadChart, "faults"), (TooWide, "ways")):
            with self.subTest(field):
                one, other = refusal([]), refusal([])
                getattr(one, field).append(None)
                self.assertEqual(getattr(other, field), [])


if __name__ == "__main__":
    unittest.main()
