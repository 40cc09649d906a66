"""Objects of many kinds, and plain judges of them, written apart from those of the package."""

import re

from wholecommits.desk import Desk
from wholecommits.disk import Disk
from wholecommits.errors import NoKey, Refused
from wholecommits.judges import Dealing
from wholecommits.log import Log, formatted
from wholecommits.pages import Pages
from wholecommits.running import Hand
from wholecommits.serial import Check
from wholecommits.store import new_store
from wholecommits.tongue import Program
from wholecommits.transactions import Transaction


def nested(depth, around, inner):
    for _ in range(depth):
        inner = around(inner)
    return inner


def things():
    """A new list of objects of all kinds that may be passed where an error is named."""
    pages = Pages(formatted(24, 8))
    return [None, True, False, Ellipsis, NotImplemented, 0, 1, -1, 7, 16, 23, 24, 600, 601, 10 ** 6, 10 ** 6 + 1,
            10 ** 18, -10 ** 18, 10 ** 18 + 1, -10 ** 18 - 1, 10 ** 30, 10 ** 30 + 1, -10 ** 30 - 1, 10 ** 59,
            -10 ** 59, "", "a", "abc", "z" * 12, "z" * 13, "A", "aB", "a b", "a1", "a\n", "`", "{", "leaf", "~" * 500,
            b"", b"a", bytearray(b"a"), memoryview(b"a"), [], [0], [1, 2], ["a"], ["a", 1], [("a", 1)], (), (0,),
            (1, 2), (2, 1), (1, 1), (True,), (0, True), (None,), (-1, 0), ("a",), ("a", 1), ("a", -1), ("a", True),
            ("a", None), ("a", "1"), ("a", [1]), ("", 1), ("A", 1), ("a" * 13, 1), ("a", 10 ** 18), ("a", -10 ** 18),
            ("a", 10 ** 18 + 1), ("a", -10 ** 18 - 1), ("a", 1, 2), (("a", 1),), (1, "a"), (["a"], 1), (None, None),
            ("leaf",), ("inner", 1), ("free", 1), ("meta", -1, 1, 0, 0), ("leaf", 1.5.__class__), tuple(range(39)),
            tuple(range(40)), tuple(range(41)), ("x",) * 39, ("x",) * 40, ("x",) * 41, ("x", 10 ** 30),
            ("x", 10 ** 30 + 1), ("x", "a" * 12), ("x", "a" * 13), ("x", "", -10 ** 30), ("x", False), ("x", None),
            ("x", ()), ("x", b"a"), (0,) * 6000, (0,) * 6001, ["x"] * 5, ("a", "b"), ("b", "a"), ("a", "a"), ("a", ""),
            ("a", "B"), ("a", None), ["a", "b"], ("a", "b", "c"), ("a", "b", ()), (("a", "b", ()),),
            (("a", "a", ("a",)),), (("b", "a", ()),), (("a", "b", ("c",)),), (("b", "c", ("a",)),),
            (("a", "b", ("b", "a")),), (("a", "b", ("a", "a")),), (("a", "b", []),), (("a", "b"),),
            (("a", "b", (), ()),), (["a", "b", ()],), [("a", "b", ())], (("a", 1, ()),), (("", "b", ()),),
            (("a", "b", ()), ("a", "b", ())), (("a", "b", ()), ("a", "b", ("a",))), (("b", "b", ()), ("a", "b", ())),
            (("a", "b", ("A",)),), (("a", "b", (1,)),), (("a", "b", "a"),), (("a", None, ()),), (("a", 1), ("a", 2)),
            (("a", 1), ("b", None)), (("b", 1), ("a", 2)), (("a", None),), (("a", True),), (("a", 10 ** 18),),
            (("a", 10 ** 18 + 1),), (("a", "b", 1),), (("a",),), (["a", 1],), (("A", 1),), ((1, 1),), ((2, 1),),
            ((2, None), (1, 5)), [(2, None), (1, 5)], [(1, 5), (2, None)], [(2, 1), (2, 1)], [(0, 1)], [(10 ** 18, 1)],
            [(10 ** 18 + 1, 1)], [(True, 1)], [(1, True)], [[1, 1]], [(1,)], [(1, 1, 1)], [(1, "a")], {}, {"a": 1},
            {"a": None, "b": -10 ** 18}, {"a": "b"}, {"": 1}, {"A": 1}, {1: 1}, {"a": [1]}, {("a", 1): 1}, {"a": True},
            {None: None}, {"a": 10 ** 18 + 1}, {"a" * 13: 1}, {"a": {"a": 1}}, {"z" * 12: 10 ** 18},
            nested(40, lambda inner: [inner], []), nested(40, lambda inner: (inner,), ()),
            nested(39, lambda inner: {"a": inner}, {}), ("a", nested(38, lambda inner: (inner,), ())), [0] * 19000,
            {"a": nested(38, lambda inner: [inner], [])}, range(3), slice(1, 2), iter([1]), zip([1], [2]), len, things,
            int, object(), object, ValueError("a"), NoKey(), Refused([1]), NoKey, Disk, Disk(16), formatted(24, 8),
            Log(formatted(24, 8)), pages, pages.batch(), (pages,), Check(0), Transaction(0, None, None),
            Dealing(0, None, (), (), ()), (Dealing(0, None, (), (), ()),), (Dealing(0, 1, (), (), (("a", 1),)), None),
            (Dealing(0, 2, (), (), (("a", 1),)),), (Dealing(1, None, ("a",), (), ()),), [Dealing(0, None, (), (), ())],
            Program(()), (Program(()),), Hand(Program(())), new_store(24, 8), Desk(24, 8), {"a": Program(())},
            "deal 0 -\n", "fail\n", "last", ("fail",), (("fail",),), ("num", 1), ("get", "a"), ("go", 0), ("cut", ()),
            ("force",), ((Program(()),), (), 0),]


def plain_integer(thing, low, high):
    return type(thing) is int and low <= thing <= high


def plain_key(thing):
    return type(thing) is str and re.fullmatch("[a-z]{1,12}", thing) is not None


def plain_mark(thing):
    return thing is None or plain_integer(thing, -10 ** 18, 10 ** 18)


def plain_spot(thing):
    return (type(thing) is tuple and len(thing) == 2 and plain_key(thing[0])
            and plain_integer(thing[1], -10 ** 18, 10 ** 18))


def plain_item(thing):
    return (type(thing) is str and re.fullmatch("[a-z]{0,12}", thing) is not None
            or plain_integer(thing, -10 ** 30, 10 ** 30))


def plain_row(thing, low, high):
    return type(thing) is tuple and low <= len(thing) <= high and all(plain_item(item) for item in thing)


def plain_keys(thing):
    return type(thing) is tuple and all(plain_key(key) for key in thing) and list(thing) == sorted(set(thing))


def plain_range(thing):
    return (type(thing) is tuple and len(thing) == 3 and plain_key(thing[0]) and plain_key(thing[1])
            and thing[0] <= thing[1] and plain_keys(thing[2])
            and all(thing[0] <= key <= thing[1] for key in thing[2]))


def plain_ranges(thing):
    return type(thing) is tuple and all(plain_range(row) for row in thing) and list(thing) == sorted(set(thing))


def plain_writes(thing):
    if type(thing) is not tuple:
        return False
    if not all(type(row) is tuple and len(row) == 2 and plain_key(row[0]) and plain_mark(row[1]) for row in thing):
        return False
    keys = [row[0] for row in thing]
    return keys == sorted(set(keys))


def plain_lot(thing, bound):
    return (type(thing) is tuple and all(plain_integer(number, 0, bound - 1) for number in thing)
            and all(one < other for one, other in zip(thing, thing[1:])))
