"""[2] for the package's own objects: what they equal, and what is set on them when they are created."""

import unittest

from stopsfirst.bending import Bent
from stopsfirst.costs import Cost
from stopsfirst.desk import Desk
from stopsfirst.joined import Blocks
from stopsfirst.others import Contest
from stopsfirst.prices import Prices
from stopsfirst.rulebooks import Rulebook
from stopsfirst.running import House
from stopsfirst.works import Works
from tests import helper
from tests.helper import Weird, lot, lots

CLASH = Rulebook(lot("abc"), [("imply", lot("ab"), ())])


def busy_desk():
    told = Desk()
    for command in ("services a b", "rule never b", "batches a", "house -", "aim a"):
        told.say(command)
    return told


def objects():
    """One object of each class of the interface."""
    return (
        Rulebook(lot("abc"), [("imply", lot("ab"), ())]), Cost(lot("ab"), ("sum", (("a", 1),))),
        Prices([("a", 1)], [("b", 2)]), Bent(CLASH, lots("a b"), lots("- b")), Contest(CLASH, (), lots("a")),
        Blocks(CLASH), Works(CLASH), House(CLASH, lot("a"), ()), Desk(), busy_desk(),
    )


class Twin:
    """A value of another kind with the same attributes as an object."""

    def __init__(self, told):
        self.__dict__.update(vars(told))
        for name in ("current", "made", "whole", "first_stop", "last_stop"):
            if hasattr(told, name):
                setattr(self, name, getattr(told, name))


class EqualTest(unittest.TestCase):
    def test_no_object_equals_a_value_of_another_kind(self):
        for at, told in enumerate(objects()):
            others = helper.ODD_VALUES + (Weird(), Twin(told), type(told), (), vars(told), repr(told))
            others += tuple(other for other in objects() if type(other) is not type(told))
            for other in others:
                self.assertIs(told == other, False, (at, repr(other)))
                self.assertIs(told != other, True, (at, repr(other)))
            self.assertIs(told == told, True)

    def test_equal_and_unlike_ones(self):
        one = Rulebook(["b", "a"], [["imply", ["a"], ["b"]]])
        self.assertTrue(one == Rulebook(("a", "b"), (("imply", ("a",), ("b",)),)))
        self.assertFalse(one == Rulebook(("a", "b"), (("imply", ("a",), ("b",)),) * 2))
        self.assertFalse(one == Rulebook(("a", "b", "c"), (("imply", ("a",), ("b",)),)))
        self.assertTrue(Cost(["b", "a"], ("sum", ())) == Cost(("a", "b"), ("sum", ())))
        self.assertFalse(Cost(["b", "a"], ("sum", ())) == Cost(("a",), ("sum", ())))
        self.assertFalse(Cost(["a"], ("sum", (("a", 1),))) == Cost(("a",), ("sum", ())))
        self.assertTrue(Prices([("a", 1), ("b", 0)], []) == Prices((["a", 1],), ()))
        self.assertFalse(Prices([("a", 1)], []) == Prices([("a", 1)], [], fee=1))

    def test_equal_parts(self):
        for one, other in zip(objects(), objects()):
            self.assertTrue(one == other, type(one))
        bent = Bent(CLASH, lots("a b"), lots("- b"))
        self.assertFalse(bent == Bent(CLASH, lots("a bc"), lots("- bc")))
        self.assertFalse(Bent(CLASH, lots("ac c"), lots("c c")) == Bent(CLASH, lots("ac c"), lots("ac ac")))
        contest = Contest(CLASH, (), lots("a"))
        for other in (Contest(Rulebook(lot("abc"), []), (), lots("a")), Contest(CLASH, None, lots("a")),
                      Contest(CLASH, (), lots("a b"))):
            self.assertFalse(contest == other)
        self.assertFalse(Blocks(CLASH) == Blocks(Rulebook(lot("abc"), [])))
        self.assertFalse(Works(CLASH) == Works(Rulebook(lot("abc"), [])))
        house = House(CLASH, lot("a"), ())
        for other in (House(Rulebook(lot("abc"), []), lot("a"), ()), House(CLASH, lot("a"), None),
                      House(CLASH, lot("b"), ())):
            self.assertFalse(house == other)
        other = House(CLASH, lot("a"), ())
        other.aim(())
        self.assertFalse(house == other)
        for command in ("house -", "batches b", "rule never a"):
            told = busy_desk()
            told.say(command)
            self.assertFalse(told == busy_desk(), command)

    def test_objects_with_unlike_pasts(self):
        one, other = Works(CLASH), Works(CLASH)
        self.assertTrue(one == other)
        one.put(("imply", (), ()))
        self.assertFalse(one == other)
        one.undo()
        self.assertTrue(one == other)
        one, other = House(CLASH, lot("a"), None), House(CLASH, lot("a"), None)
        self.assertTrue(one == other)
        one.others(())
        self.assertFalse(one == other)


class AttributeTest(unittest.TestCase):
    LISTED = (
        (Rulebook, ("services", "rules")), (Cost, ("services", "form")), (Prices, ("starts", "stops", "waits", "fee")),
        (Bent, ("plan", "climb", "first_stop", "last_stop", "whole")), (Contest, ("book", "batches", "goals")),
        (Blocks, ("book", "blocks", "factors")), (Works, ("current", "made")),
        (House, ("book", "batches", "state", "goal", "history")), (Desk, ("works", "house", "batches")),
    )

    def test_listed_attributes(self):
        found = {type(told): told for told in objects()}
        for kind, names in self.LISTED:
            for name in names:
                self.assertTrue(hasattr(found[kind], name), (kind, name))
                self.assertTrue(name in vars(found[kind]) or isinstance(getattr(kind, name), property))

    def test_later_changes_have_no_effect(self):
        services, rules = ["b", "a"], [["imply", ["a"], []]]
        book = Rulebook(services, rules)
        services.append("z")
        rules[0][1].append("b")
        rules.clear()
        self.assertEqual((book.services, book.rules), (lot("ab"), (("imply", lot("a"), ()),)))
        goals, batches = [lot("b")], [lot("b")]
        contest, house = Contest(book, batches, goals), House(book, (), batches)
        goals.append(())
        batches.clear()
        self.assertEqual((contest.goals, contest.batches, house.batches), (lots("b"),) * 3)
        self.assertEqual(contest.needed(()), None)


if __name__ == "__main__":
    unittest.main()
