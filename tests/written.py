"""Guards, deeds and charts, each with the text that is written of it."""

YES = ("yes",)
GREATEST = 10 ** 30
NOUGHTS = "0" * 30


def named_rooms(names):
    """Rooms of these names: one that has all others as its kids."""
    return ((names[0], "one", 0, "", "", (), ()), *[(name, "plain", 1, "", "", (), ()) for name in names[1:]])


# Names that are words of the guards' own, names unlike in one letter, and names one of which is the head of another.
GUARD_BOXES = (
    ("is", 10, 0), ("under", 1, 0), ("not", 5, 4), ("coin", GREATEST, 5), ("coins", 7, 6), ("coil", 4, 0),
)
GUARD_ROOMS = named_rooms(("hall", "yes", "in", "either", "both", "is", "halls", "hale", "h", "a" * 12))
GUARDS = (
    (YES, "yes"),
    (("is", 3, 0), "is coin 0"),
    (("is", 4, 0), "is coins 0"),
    (("is", 5, 3), "is coil 3"),
    (("is", 0, 7), "is is 7"),
    (("is", 1, -7), "is under -7"),
    (("is", 2, GREATEST), "is not 1" + NOUGHTS),
    (("is", 3, -GREATEST), "is coin -1" + NOUGHTS),
    (("under", 3, 12), "under coin 12"),
    (("under", 1, 1), "under under 1"),
    (("under", 0, GREATEST), "under is 1" + NOUGHTS),
    (("under", 5, -GREATEST), "under coil -1" + NOUGHTS),
    (("in", 0), "in hall"),
    (("in", 1), "in yes"),
    (("in", 2), "in in"),
    (("in", 5), "in is"),
    (("in", 6), "in halls"),
    (("in", 7), "in hale"),
    (("in", 8), "in h"),
    (("in", 9), "in aaaaaaaaaaaa"),
    (("not", YES), "not yes"),
    (("not", ("in", 3)), "not in either"),
    (("not", ("is", 2, 1)), "not is not 1"),
    (("both", YES, YES), "both yes yes"),
    (("both", ("in", 4), ("in", 3)), "both in both in either"),
    (("both", ("not", ("in", 1)), YES), "both not in yes yes"),
    (("both", YES, ("not", ("in", 1))), "both yes not in yes"),
    (("either", ("is", 0, 0), ("under", 1, -1)), "either is is 0 under under -1"),
    (("either", ("both", YES, ("in", 2)), ("in", 4)), "either both yes in in in both"),
    (("either", ("in", 4), ("both", ("in", 2), YES)), "either in both both in in yes"),
    (("not", ("not", ("not", ("not", ("not", YES))))), "not not not not not yes"),
    (("both", ("both", ("both", ("both", ("both", YES, YES), YES), YES), YES), YES),
     "both both both both both yes yes yes yes yes yes"),
    (("either", YES, ("either", YES, ("either", YES, ("either", YES, ("not", ("in", 2)))))),
     "either yes either yes either yes either yes not in in"),
)
# Guards of a height of 7, which charts don't have.
TOO_HIGH = (
    "not not not not not not yes",
    "not not not not not not in in",
    "not not not not not both yes yes",
    "both both both both both both yes yes yes yes yes yes yes",
    "either yes either yes either yes either yes either yes not in in",
    "both yes not not not not not is is 0",
)

DEED_BOXES = (("set", 10, 0), ("add", 1, 0), ("coin", GREATEST, 5), ("coins", 7, 6), ("coil", 4, 0), ("say", 3, 0))
DEED_EVENTS = ("say", "send", "set", "add", "ring", "rings", "rind", "r")
DEEDS = (
    (("say", "a"), "say a"),
    (("say", "hello"), "say hello"),
    (("say", "abcdefghijkl"), "say abcdefghijkl"),
    (("say", "say"), "say say"),
    (("say", "set"), "say set"),
    (("say", "coin"), "say coin"),
    (("set", 0, 0), "set set 0"),
    (("set", 0, 9), "set set 9"),
    (("set", 1, 0), "set add 0"),
    (("set", 2, GREATEST - 1), "set coin " + "9" * 30),
    (("set", 3, 6), "set coins 6"),
    (("set", 4, 3), "set coil 3"),
    (("set", 5, 2), "set say 2"),
    (("add", 1, 5), "add add 5"),
    (("add", 0, -5), "add set -5"),
    (("add", 2, 0), "add coin 0"),
    (("add", 4, GREATEST), "add coil 1" + NOUGHTS),
    (("add", 5, -GREATEST), "add say -1" + NOUGHTS),
    (("send", 0), "send say"),
    (("send", 1), "send send"),
    (("send", 3), "send add"),
    (("send", 4), "send ring"),
    (("send", 5), "send rings"),
    (("send", 6), "send rind"),
    (("send", 7), "send r"),
)

HOUSE = (("inner", 3, 5, (("coins", 5, 0), ("keys", 2, 1)), ("knock", "ring"), (
    ("house", "one", 0, "near", "", (("say", "hello"), ("set", 0, 3)), (("say", "bye"),)),
    ("parlour", "one", 1, "near", "green", (), ()),
    ("chair", "plain", 2, "", "", (("send", 1),), ()),
    ("sofa", "plain", 2, "", "soft", (), (("add", 0, -1), ("send", 0))),
    ("hall", "all", 1, "deep", "", (), ()),
    ("nook", "plain", 2, "", "", (), ()),
    ("attic", "one", 2, "deep", "dim", (("say", "up"),), (("say", "down"),)),
    ("trunk", "plain", 3, "", "", (), ()),
    ("cellar", "plain", 1, "", "", (), ()),
), (
    (4, 0, ("both", ("in", 5), ("not", ("under", 0, 2))), (("say", "creak"), ("add", 0, 7)), "to", 8),
    (4, 1, YES, (), "to", 8),
    (8, 0, YES, (("set", 1, 1),), "back", 4),
    (8, 1, ("is", 1, -4), (), "back", 6),
    (0, 0, YES, (), "stay", None),
    (2, 1, ("either", YES, YES), (), "stay", None),
    (3, 1, ("not", YES), (("send", 0), ("send", 0), ("say", "knock")), "stay", None),
)), (
    "order inner",
    "letters 3",
    "turns 5",
    "box coins 5 0",
    "box keys 2 1",
    "event knock",
    "event ring",
    "one house keeps near",
    "in say hello",
    "in set coins 3",
    "out say bye",
    "  one parlour keeps near lamp green",
    "    plain chair",
    "in send ring",
    "    plain sofa lamp soft",
    "out add coins -1",
    "out send knock",
    "  all hall keeps deep",
    "    plain nook",
    "    one attic keeps deep lamp dim",
    "in say up",
    "out say down",
    "      plain trunk",
    "  plain cellar",
    "door hall knock to cellar",
    "when both in nook not under coins 2",
    "do say creak",
    "do add coins 7",
    "door hall ring to cellar",
    "door cellar knock back hall",
    "do set keys 1",
    "door cellar ring back attic",
    "when is keys -4",
    "door house knock stay",
    "door chair ring stay",
    "when either yes yes",
    "door sofa ring stay",
    "when not yes",
    "do send knock",
    "do send knock",
    "do say knock",
))
BARE = (("outer", 0, 1, (), (), (("yard", "plain", 0, "", "", (), ()),), ()), (
    "order outer", "letters 0", "turns 1", "plain yard",
))
# As deep as rooms can lie.
DEEP = (("inner", 12, 20, (), ("ring",), (
    *[("abcdefghijkl"[depth], "all", depth, "", "", (), ()) for depth in range(12)],
    ("m", "plain", 12, "", "red", (), ()),
    ("n", "plain", 12, "", "", (("say", "n"),), ()),
    ("o", "plain", 1, "", "", (), ()),
), ((13, 0, YES, (), "to", 14),)), (
    "order inner", "letters 12", "turns 20", "event ring",
    "all a", "  all b", "    all c", "      all d", "        all e", "          all f", "            all g",
    "              all h", "                all i", "                  all j", "                    all k",
    "                      all l", "                        plain m lamp red", "                        plain n",
    "in say n", "  plain o", "door n ring to o",
))
# Names that are words with which rows are written.
OWN_NAMES = (("outer", 1, 2, (
    ("box", GREATEST, 0), ("order", 1, 0), ("door", 5, 4), ("in", 3, 0), ("not", 3, 0), ("letters", 9, 8),
), ("event", "to", "back", "stay", "when", "do", "in", "out"), (
    ("one", "one", 0, "near", "lamp", (("set", 3, 0),), (("send", 6),)),
    ("all", "all", 1, "deep", "deep", (), ()),
    ("plain", "plain", 2, "", "plain", (), ()),
    ("keeps", "one", 2, "near", "keeps", (), ()),
    ("lamp", "plain", 3, "", "lamp", (("say", "lamp"),), (("say", "in"),)),
    ("near", "plain", 3, "", "", (), ()),
    ("deep", "one", 2, "deep", "", (("add", 2, -1),), ()),
    ("in", "plain", 3, "", "", (), ()),
    ("to", "plain", 1, "", "", (), ()),
    ("stay", "one", 1, "near", "", (), ()),
    ("yes", "plain", 2, "", "yes", (), ()),
), (
    (8, 1, YES, (), "to", 8),
    (9, 3, YES, (), "stay", None),
    (9, 2, YES, (), "back", 9),
    (0, 4, ("not", ("is", 4, 0)), (("send", 5), ("set", 3, 2)), "to", 9),
    (7, 6, ("both", ("in", 7), ("in", 10)), (), "back", 3),
)), (
    "order outer", "letters 1", "turns 2",
    "box box 1" + NOUGHTS + " 0", "box order 1 0", "box door 5 4", "box in 3 0", "box not 3 0", "box letters 9 8",
    "event event", "event to", "event back", "event stay", "event when", "event do", "event in", "event out",
    "one one keeps near lamp lamp", "in set in 0", "out send in",
    "  all all keeps deep lamp deep",
    "    plain plain lamp plain",
    "    one keeps keeps near lamp keeps",
    "      plain lamp lamp lamp", "in say lamp", "out say in",
    "      plain near",
    "    one deep keeps deep", "in add door -1",
    "      plain in",
    "  plain to",
    "  one stay keeps near",
    "    plain yes lamp yes",
    "door to to to to",
    "door stay stay stay",
    "door stay back back stay",
    "door one when to stay", "when not is not 0", "do send do", "do set in 2",
    "door in in back keeps", "when both in in in yes",
))
CHARTS = (HOUSE, BARE, DEEP, OWN_NAMES)
