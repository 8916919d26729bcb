import itertools
import unittest

from nesthall.charts import faults
from nesthall.errors import NestError, NoWords
from nesthall.guards import height
from nesthall.reading import read_deed, read_guard
from nesthall.writing import deed_text, guard_text
from samples import check_tuples
from written import DEED_BOXES, DEED_EVENTS, DEEDS, GREATEST, GUARD_BOXES, GUARD_ROOMS, GUARDS, NOUGHTS, TOO_HIGH, YES

SIGNS = [chr(code) for code in (10, *range(32, 127))]


def spoiled(text, put_in):
    """Texts that are like this one but for a word lost or put in, blanks, a nought, other letters, a line feed."""
    words = text.split(" ")
    told = ["", text.upper(), text + "\n", "\n" + text, text.replace(" ", "\n"), text.replace(" ", "_"), text + text]
    for place in range(len(words) + 1):
        told.append(" ".join(words[:place] + [""] + words[place:]))
        told.extend(" ".join(words[:place] + [word] + words[place:]) for word in put_in)
    for place, word in enumerate(words):
        others = [*put_in, word + "x", word[:-1], word.capitalize(), "0" + word, "-" + word, "+" + word, "nowhere", "A"]
        told.append(" ".join(words[:place] + words[place + 1:]))
        told.extend(" ".join(words[:place] + [other] + words[place + 1:]) for other in others)
    return [other for other in told if other != text]


class Reader(unittest.TestCase):
    def refused(self, ask, text):
        with self.subTest(text):
            with self.assertRaises(NoWords):
                ask(text)
            with self.assertRaises(NestError):
                ask(text)

    def tried(self, ask, text):
        """What is read, or None where the text is refused."""
        try:
            return ask(text)
        except NoWords:
            return None


def small_guards(count, boxes, rooms, numbers):
    """Each guard that is written by so many words."""
    told = [YES] if count == 1 else []
    if count == 2:
        told += [("in", room) for room in range(len(rooms))]
    if count == 3:
        told += [(kind, box, number) for kind in ("is", "under") for box in range(len(boxes)) for number in numbers]
    if count > 1:
        told += [("not", guard) for guard in small_guards(count - 1, boxes, rooms, numbers)]
    for first in range(1, count - 1):
        ones = small_guards(first, boxes, rooms, numbers)
        others = small_guards(count - 1 - first, boxes, rooms, numbers)
        told += [(kind, one, other) for kind in ("both", "either") for one in ones for other in others]
    return told


class Guards(Reader):
    def ask(self, text):
        return read_guard(text, GUARD_BOXES, GUARD_ROOMS)

    def test_guards(self):
        for guard, text in GUARDS:
            with self.subTest(text):
                self.assertEqual(self.ask(text), guard)
                check_tuples(self, self.ask(text))

    def test_guards_that_are_too_high(self):
        for text in TOO_HIGH:
            self.refused(self.ask, text)
        self.refused(self.ask, "not " * 100 + "yes")
        self.refused(self.ask, "both " * 60 + "yes" + " yes" * 60)

    def test_the_greatest_guard_of_a_height_of_six(self):
        guard, text = ("in", 2), "in in"
        for kind in ("both", "either", "both", "either", "both"):
            guard, text = (kind, guard, guard), f"{kind} {text} {text}"
        self.assertEqual(height(guard), 6)
        self.assertEqual(self.ask(text), guard)
        self.refused(self.ask, "not " + text)

    def test_numbers_at_both_ends_and_beyond(self):
        for kind in ("is", "under"):
            for number in (GREATEST, -GREATEST, GREATEST - 1, 1 - GREATEST):
                self.assertEqual(self.ask(f"{kind} coin {number}"), (kind, 3, number))
            for number in (GREATEST + 1, -GREATEST - 1, GREATEST * 10, 10 ** 299, -10 ** 299):
                self.refused(self.ask, f"{kind} coin {number}")
                self.refused(self.ask, f"not {kind} coin {number}")
            self.refused(self.ask, f"{kind} coin " + "9" * 5000)

    def test_texts_that_write_no_guard(self):
        for text in (
            "", " ", "\n", "yes yes", "yes ", " yes", "yes\n", "\nyes", "Yes", "YES", "yess", "ye", "no", "true", "is",
            "is coin", "is coin 01", "is coin -0", "is coin +1", "is coin 1 1", "is coin  1", "is coin 1 ", "is coin x",
            "is 1 coin", "is hall 1", "is nowhere 1", "is coi 1", "is Coin 1", "is 0 1", "is  1", "is coin ",
            "is coin -", "over coin 1", "under", "under coin", "under coin 1.", "in", "in ", "in  hall", "in hal",
            "in hallx", "in Hall", "in coin", "in 0", "in hall hall", "in hall\n", "in hall\nyes", "not", "not ",
            "not not", "not  yes", "not yes yes", "not(yes)", "both", "both yes", "both yes ", "both yes  yes",
            "both yes yes yes", "both yes, yes", "yes both yes", "yes and yes", "either yes", "either",
            "either yes or yes", "set coin 1", "when yes", "(yes)", "yes not", "nowhere",
        ):
            self.refused(self.ask, text)

    def test_spoiled_texts(self):
        read = count = 0
        for _, text in GUARDS:
            for other in spoiled(text, ("yes", "not", "in", "is", "coin", "hall", "0", "-1", "both")):
                guard = self.tried(self.ask, other)
                count += 1
                if guard is not None:
                    read += 1
                    self.assertEqual(guard_text(guard, GUARD_BOXES, GUARD_ROOMS), other)
                    self.assertLessEqual(height(guard), 6)
        self.assertGreater(count, 3000)
        self.assertLess(read, count // 4)

    def test_each_other_sign_in_the_place_of_a_sign(self):
        text = "both is coin 5 in hall"
        others = {
            text.replace("coin", "coil"), text.replace("hall", "hale"),
            *[text.replace("5", figure) for figure in "0123456789"],
        }
        for place in range(len(text)):
            for sign in SIGNS:
                other = text[:place] + sign + text[place + 1:]
                self.assertEqual(self.tried(self.ask, other) is not None, other in others, other)

    def test_each_row_of_a_few_words(self):
        boxes, rooms = (("is", 5, 0), ("yes", 5, 0)), (("in",), ("not",), ("yes",))
        words = ("yes", "is", "in", "not", "both", "0")
        written = {}
        for count in range(1, 8):
            for guard in small_guards(count, boxes, rooms, (0,)):
                written[guard_text(guard, boxes, rooms)] = guard
        count = 0
        for length in range(1, 8):
            for row in itertools.product(words, repeat=length):
                text = " ".join(row)
                guard = written.get(text)
                self.assertEqual(self.tried(lambda told: read_guard(told, boxes, rooms), text),
                                 guard if guard is None or height(guard) <= 6 else None, text)
                count += guard is not None
        self.assertGreater(count, 500)

    def test_no_boxes_and_no_rooms(self):
        self.assertEqual(read_guard("not yes", (), ()), ("not", YES))
        for text in ("is coin 0", "under coin 0", "in hall", "in ", "is  0"):
            self.refused(lambda told: read_guard(told, (), ()), text)
            self.refused(lambda told: read_guard(told, GUARD_BOXES[:1], (("yard",),)), text)

    def test_of_rooms_the_names_alone_are_looked_at(self):
        self.assertEqual(read_guard("both in bee not in ash", (), (("ash",), ("bee",))),
                         ("both", ("in", 1), ("not", ("in", 0))))


class Deeds(Reader):
    def ask(self, text):
        return read_deed(text, DEED_BOXES, DEED_EVENTS)

    def test_deeds(self):
        for deed, text in DEEDS:
            with self.subTest(text):
                self.assertEqual(self.ask(text), deed)
                check_tuples(self, self.ask(text))

    def test_words(self):
        for word in ("a", "z", "hello", "abcdefghijkl", "mnopqrstuvwx", "zzzzzzzzzzzz"):
            self.assertEqual(self.ask("say " + word), ("say", word))
        for word in ("", "abcdefghijklm", "a" * 24, "A", "Hello", "hellO", "a1", "1", "0", "a-b", "a_b", "a.", "-"):
            self.refused(self.ask, "say " + word)
        for sign in SIGNS:
            self.assertEqual(self.tried(self.ask, "say a" + sign) is not None, sign.isalpha() and sign.islower(), sign)

    def test_a_set_up_to_the_size_of_its_box(self):
        for box, (name, size, _) in enumerate(DEED_BOXES):
            for number in (0, size - 1):
                self.assertEqual(self.ask(f"set {name} {number}"), ("set", box, number))
            for number in (size, size + 1, -1, -size, GREATEST, GREATEST + 1, 10 ** 299, -10 ** 299):
                self.refused(self.ask, f"set {name} {number}")

    def test_an_add_at_both_ends_and_beyond(self):
        for box, (name, _, _) in enumerate(DEED_BOXES):
            for number in (GREATEST, GREATEST - 1, 0, -1, 1 - GREATEST, -GREATEST):
                self.assertEqual(self.ask(f"add {name} {number}"), ("add", box, number))
            for number in (GREATEST + 1, -GREATEST - 1, 10 ** 299, -10 ** 299):
                self.refused(self.ask, f"add {name} {number}")
        self.refused(self.ask, "add coin 1" + NOUGHTS + "0")
        self.refused(self.ask, "add coin " + "9" * 5000)

    def test_texts_that_write_no_deed(self):
        for text in (
            "", " ", "\n", "say", "say ", "say  a", " say a", "say a ", "say a b", "say a\n", "\nsay a", "say\na",
            "Say a", "SAY a", "sa a", "says a", "tell a", "a", "set", "set coin", "set coin ", "set coin 1 ",
            " set coin 1", "set  coin 1", "set coin  1", "set coin 01", "set coin 00", "set coin -0", "set coin +1",
            "set coin x", "set coin 1 1", "set coin 1\n", "set 1 coin", "set 0 1", "set nowhere 1", "set coi 0",
            "set coinss 0", "set Coin 1", "set ring 1", "set  0", "put coin 1", "add", "add coin", "add coin 01",
            "add coin -01", "add coin -", "add coin 1 2", "add nowhere 1", "add ring 1", "add  1", "send", "send ",
            "send  ring", "send ring ", "send ring 1", "send ring ring", "send nowhere", "send rin", "send ringss",
            "send Ring", "send coin", "send 0", "send ring\n", "in say a", "do say a", "yes", "in hall", "is coin 1",
        ):
            self.refused(self.ask, text)

    def test_spoiled_texts(self):
        read = count = 0
        for _, text in DEEDS:
            for other in spoiled(text, ("say", "set", "add", "send", "coin", "coins", "ring", "0", "-1")):
                deed = self.tried(self.ask, other)
                count += 1
                if deed is not None:
                    read += 1
                    self.assertEqual(deed_text(deed, DEED_BOXES, DEED_EVENTS), other)
                    rooms = (("yard", "plain", 0, "", "", (deed,), ()),)
                    self.assertEqual(faults(("inner", 0, 1, DEED_BOXES, DEED_EVENTS, rooms, ())), [])
        self.assertGreater(count, 1500)
        self.assertLess(read, count // 4)

    def test_each_row_of_a_few_words(self):
        boxes, events = (("set", 2, 0), ("say", 1, 0), ("coin", 3, 0)), ("say", "add", "ring")
        words = ("say", "set", "add", "send", "coin", "ring", "0", "1", "2", "-1", "01", "")
        written = {"say " + word: ("say", word) for word in words if word.isalpha()}
        written.update({"send " + name: ("send", event) for event, name in enumerate(events)})
        for box, (name, size, _) in enumerate(boxes):
            written.update({f"set {name} {number}": ("set", box, number) for number in range(size)})
            written.update({f"add {name} {number}": ("add", box, number) for number in (-1, 0, 1, 2)})
        for length in range(1, 5):
            for row in itertools.product(words, repeat=length):
                text = " ".join(row)
                told = self.tried(lambda asked: read_deed(asked, boxes, events), text)
                self.assertEqual(told, written.get(text), text)

    def test_no_boxes_and_no_events(self):
        self.assertEqual(read_deed("say ash", (), ()), ("say", "ash"))
        for text in ("set coin 0", "add coin 0", "send ring", "send ", "set  0", "say "):
            self.refused(lambda told: read_deed(told, (), ()), text)


if __name__ == "__main__":
    unittest.main()
