"""Promises 21, 22 and 24 to 27, and the interface section dawkline/state.py."""

import copy
import inspect
import random
import unittest

from dawkline import state as state_module
from dawkline.boxes import Box
from dawkline.errors import NoSuchEntry
from dawkline.message import report
from dawkline.record import pack, unpack
from dawkline.state import Item, State, state_of

ANN = ("ann", "a")
BOB = ("bob", "b")
EVE = ("eve", "c")
ALL = ("all", "a")
LINES = ("To: bob", "", "hello")
TRACE_A = "Received: by a"
FIELDS = ("tag", "sender", "recipient", "lines", "via", "born", "tries", "due", "doubt")


def shown(item):
    """Return the attributes of an item."""
    return tuple(getattr(item, field) for field in FIELDS)


def snapshot(state):
    """Return all that a state shows."""
    return {
        "domain": state.domain,
        "count": state.count,
        "serial": state.serial,
        "queue": {tag: shown(item) for tag, item in state.queue.items()},
        "boxes": {user: (box.number, box.change, list(box.entries),
                         [box.news(mark) for mark in range(box.change + 1)])
                  for user, box in state.boxes.items()},
        "taken": dict(state.taken),
        "owed": dict(state.owed),
    }


def changed(before, **parts):
    """Return a snapshot with other parts."""
    return {**before, **parts}


def fresh(tag, sender, recipient, lines, via, time):
    """Return the attributes of an item that a host has just created or taken."""
    return (tag, sender, recipient, lines, via, time, 0, time, None)


def state_after(*events):
    """Return the state of host a after these events."""
    state = State("a")
    for event in events:
        state.apply(event)
    return state


class Interface(unittest.TestCase):
    def test_names_arguments_and_file(self):
        self.assertEqual(str(inspect.signature(Item)),
                         "(tag, sender, recipient, lines, via, born, tries, due, doubt)")
        self.assertEqual(str(inspect.signature(State)), "(domain)")
        self.assertEqual(str(inspect.signature(state_of)), "(value)")
        self.assertEqual(str(inspect.signature(vars(Item)["to_value"])), "(self)")
        self.assertEqual(str(inspect.signature(vars(State)["apply"])), "(self, event)")
        self.assertEqual(str(inspect.signature(vars(State)["to_value"])), "(self)")
        for found in (Item, State, state_of, state_module.State):
            self.assertEqual(found.__module__, "dawkline.state")

    def test_an_item(self):
        values = (("a", 1, 0), ANN, BOB, LINES, (ALL,), 3, 4, 5, "b")
        item = Item(*values)
        self.assertEqual(shown(item), values)
        self.assertEqual(item.to_value(), values)
        self.assertIs(type(item.to_value()), tuple)
        named = Item(doubt=None, due=1, tries=2, born=3, via=(), lines=(), recipient=BOB, sender=None,
                     tag=("b", 2, 3))
        self.assertEqual(named.to_value(), (("b", 2, 3), None, BOB, (), (), 3, 2, 1, None))

    def test_the_value_of_an_item_shows_its_attributes_of_now(self):
        item = Item(("a", 1, 0), ANN, BOB, LINES, (), 3, 0, 3, None)
        item.tries = 7
        item.doubt = "b"
        self.assertEqual(item.to_value(), (("a", 1, 0), ANN, BOB, LINES, (), 3, 7, 3, "b"))

    def test_the_empty_state(self):
        state = State("mail.example")
        self.assertEqual(snapshot(state), {"domain": "mail.example", "count": 0, "serial": 0, "queue": {},
                                           "boxes": {}, "taken": {}, "owed": {}})


class Submit(unittest.TestCase):
    def test_several_recipients(self):
        state = State("a")
        tags = state.apply(("submit", ANN, (BOB, EVE, BOB), LINES, 7))
        self.assertEqual(tags, [("a", 1, 0), ("a", 2, 0), ("a", 3, 0)])
        self.assertIs(type(tags), list)
        traced = (TRACE_A,) + LINES
        self.assertEqual(snapshot(state), changed(
            snapshot(State("a")), count=1, serial=3,
            queue={tag: fresh(tag, ANN, recipient, traced, (), 7)
                   for tag, recipient in zip(tags, (BOB, EVE, BOB))}))

    def test_serials_go_on(self):
        state = State("a")
        self.assertEqual(state.apply(("submit", None, (BOB,), (), 0)), [("a", 1, 0)])
        self.assertEqual(state.apply(("submit", ANN, (EVE, ANN), LINES, 5)), [("a", 2, 0), ("a", 3, 0)])
        self.assertEqual((state.count, state.serial), (2, 3))
        self.assertEqual(shown(state.queue["a", 1, 0]), fresh(("a", 1, 0), None, BOB, (TRACE_A,), (), 0))
        self.assertEqual(shown(state.queue["a", 3, 0]),
                         fresh(("a", 3, 0), ANN, ANN, (TRACE_A,) + LINES, (), 5))

    def test_the_queue_maps_tags_to_items(self):
        state = state_after(("submit", ANN, (BOB,), LINES, 0))
        for tag, item in state.queue.items():
            self.assertIs(type(item), Item)
            self.assertEqual(item.tag, tag)


class Take(unittest.TestCase):
    def test_an_item_of_another_host(self):
        state = state_after(("submit", ANN, (BOB,), LINES, 0))
        before = snapshot(state)
        tag = ("z", 9, 4)
        self.assertEqual(state.apply(("take", "b", tag, EVE, ANN, (ALL, BOB), ("Received: by b", "x"), 6)), [tag])
        item = fresh(tag, EVE, ANN, (TRACE_A, "Received: by b", "x"), (ALL, BOB), 6)
        self.assertEqual(snapshot(state), changed(
            before, count=2, queue={**before["queue"], tag: item}, taken={tag: "b"}))

    def test_the_serial_stays(self):
        state = state_after(("take", "b", ("z", 9, 4), None, ANN, (), (), 6))
        self.assertEqual(state.serial, 0)
        self.assertEqual(state.apply(("submit", None, (ANN,), (), 6)), [("a", 1, 0)])

    def test_an_item_that_comes_back_to_its_first_host(self):
        state = state_after(("submit", ANN, (BOB,), LINES, 0), ("passed", ("a", 1, 0), "b"))
        self.assertEqual(state.apply(("take", "c", ("a", 1, 2), ANN, BOB, (), ("y",), 3)), [("a", 1, 2)])
        self.assertEqual(list(state.queue), [("a", 1, 2)])
        self.assertEqual((state.taken, state.owed), ({("a", 1, 2): "c"}, {("a", 1, 1): "b"}))


class Passing(unittest.TestCase):
    def setUp(self):
        self.state = state_after(("submit", ANN, (BOB, EVE), LINES, 2), ("take", "z", ("z", 5, 3), None, BOB, (), (), 3))
        self.before = snapshot(self.state)

    def with_item(self, tag, **parts):
        values = dict(zip(FIELDS, self.before["queue"][tag]))
        values.update(parts)
        return {**self.before["queue"], tag: tuple(values[field] for field in FIELDS)}

    def test_doubt(self):
        self.assertEqual(self.state.apply(("doubt", ("a", 2, 0), "b")), [])
        self.assertEqual(snapshot(self.state),
                         changed(self.before, count=3, queue=self.with_item(("a", 2, 0), doubt="b")))

    def test_retry_ends_a_doubt(self):
        self.state.apply(("doubt", ("z", 5, 3), "c"))
        self.assertEqual(self.state.apply(("retry", ("z", 5, 3), 4, 17)), [])
        self.assertEqual(snapshot(self.state), changed(
            self.before, count=4, queue=self.with_item(("z", 5, 3), tries=4, due=17, doubt=None)))

    def test_retry_without_a_doubt(self):
        self.assertEqual(self.state.apply(("retry", ("a", 1, 0), 1, 9)), [])
        self.assertEqual(snapshot(self.state), changed(
            self.before, count=3, queue=self.with_item(("a", 1, 0), tries=1, due=9)))

    def test_passed(self):
        for at, (tag, following) in enumerate([(("a", 1, 0), ("a", 1, 1)), (("z", 5, 3), ("z", 5, 4))]):
            before = snapshot(self.state)
            self.assertEqual(self.state.apply(("passed", tag, "b")), [])
            rest = {other: item for other, item in before["queue"].items() if other != tag}
            self.assertEqual(snapshot(self.state), changed(
                before, count=3 + at, queue=rest, owed={**before["owed"], following: "b"}))

    def test_passed_ends_a_doubt(self):
        self.state.apply(("doubt", ("a", 1, 0), "b"))
        self.state.apply(("passed", ("a", 1, 0), "b"))
        self.assertNotIn(("a", 1, 0), self.state.queue)
        self.assertEqual(self.state.owed, {("a", 1, 1): "b"})
        self.assertEqual(self.state.count, 4)

    def test_forgotten(self):
        self.state.apply(("passed", ("a", 1, 0), "b"))
        self.state.apply(("passed", ("a", 2, 0), "c"))
        before = snapshot(self.state)
        self.assertEqual(self.state.apply(("forgotten", ("a", 1, 1))), [])
        self.assertEqual(snapshot(self.state), changed(before, count=5, owed={("a", 2, 1): "c"}))

    def test_forget(self):
        self.state.apply(("take", "y", ("y", 1, 1), ANN, BOB, (), (), 3))
        before = snapshot(self.state)
        self.assertEqual(self.state.apply(("forget", ("z", 5, 3))), [])
        self.assertEqual(snapshot(self.state), changed(before, count=4, taken={("y", 1, 1): "y"}))

    def test_forgotten_and_forget_are_about_different_tags(self):
        state = state_after(("take", "b", ("b", 1, 1), ANN, BOB, (), (), 0), ("passed", ("b", 1, 1), "c"),
                            ("take", "c", ("b", 1, 3), ANN, BOB, (), (), 0))
        self.assertEqual((state.taken, state.owed),
                         ({("b", 1, 1): "b", ("b", 1, 3): "c"}, {("b", 1, 2): "c"}))
        state.apply(("forget", ("b", 1, 1)))
        self.assertEqual((state.taken, state.owed), ({("b", 1, 3): "c"}, {("b", 1, 2): "c"}))
        state.apply(("forgotten", ("b", 1, 2)))
        self.assertEqual((state.taken, state.owed), ({("b", 1, 3): "c"}, {}))


class Deliver(unittest.TestCase):
    def test_the_first_delivery_makes_the_box(self):
        state = state_after(("submit", BOB, (ANN, ANN), LINES, 2))
        before = snapshot(state)
        self.assertEqual(state.apply(("deliver", ("a", 1, 0), "ann")), [])
        traced = (TRACE_A,) + LINES
        entry = (1, traced, (), 1)
        self.assertEqual(snapshot(state), changed(
            before, count=2, queue={("a", 2, 0): before["queue"]["a", 2, 0]},
            boxes={"ann": (1, 1, [entry], [(1, (entry,), ()), (1, (), ())])}))
        self.assertIs(type(state.boxes["ann"]), Box)

    def test_the_second_delivery_goes_to_the_same_box(self):
        state = state_after(("submit", BOB, (ANN, ANN, ANN), LINES, 2), ("deliver", ("a", 2, 0), "ann"),
                            ("deliver", ("a", 1, 0), "ann"), ("deliver", ("a", 3, 0), "zoe"))
        traced = (TRACE_A,) + LINES
        self.assertEqual(state.boxes["ann"].entries, [(1, traced, (), 1), (2, traced, (), 2)])
        self.assertEqual(state.boxes["zoe"].entries, [(1, traced, (), 1)])
        self.assertEqual((state.queue, state.count, state.serial), ({}, 4, 3))

    def test_a_taken_item(self):
        tag = ("b", 4, 1)
        state = state_after(("take", "b", tag, BOB, ANN, (), ("x",), 2))
        state.apply(("deliver", tag, "ann"))
        self.assertEqual(state.boxes["ann"].entries, [(1, (TRACE_A, "x"), (), 1)])
        self.assertEqual((state.queue, state.taken), ({}, {tag: "b"}))

    def test_flag_and_expunge(self):
        state = state_after(("submit", BOB, (ANN, ANN), LINES, 2), ("deliver", ("a", 1, 0), "ann"),
                            ("deliver", ("a", 2, 0), "ann"))
        before = snapshot(state)
        traced = (TRACE_A,) + LINES
        self.assertEqual(state.apply(("flag", "ann", 1, ("seen", "draft", "seen"))), [])
        self.assertEqual(state.boxes["ann"].entries, [(1, traced, ("draft", "seen"), 3), (2, traced, (), 2)])
        self.assertEqual(state.apply(("expunge", "ann", 2)), [])
        self.assertEqual(state.boxes["ann"].entries, [(1, traced, ("draft", "seen"), 3)])
        self.assertEqual(state.boxes["ann"].news(3), (4, (), (2,)))
        self.assertEqual(changed(snapshot(state), boxes=None), changed(before, boxes=None, count=5))


    def test_entries_that_are_not_there(self):
        state = state_after(("submit", BOB, (ANN, ANN), LINES, 2), ("deliver", ("a", 1, 0), "ann"),
                            ("deliver", ("a", 2, 0), "ann"), ("expunge", "ann", 1))
        before = snapshot(state)
        for user, number in (("ann", 0), ("ann", 1), ("ann", 3), ("ann", -1), ("zoe", 1), ("zoe", 0)):
            self.assertIs(state.has_entry(user, number), False)
            with self.assertRaises(NoSuchEntry):
                state.apply(("flag", user, number, ("seen",)))
            with self.assertRaises(NoSuchEntry):
                state.apply(("expunge", user, number))
            self.assertEqual(snapshot(state), before)
        self.assertIs(state.has_entry("ann", 2), True)


class Expand(unittest.TestCase):
    """The lines of the removed item get no other trace; its via goes on with its recipient."""

    def assert_expanded(self, sender, owner, expected):
        tag = ("b", 4, 1)
        state = state_after(("submit", ANN, (BOB,), LINES, 0),
                            ("take", "b", tag, sender, ALL, (EVE,), ("x", ".y"), 2),
                            ("retry", tag, 3, 9))
        before = snapshot(state)
        tags = state.apply(("expand", tag, owner, (BOB, ANN, BOB), 11))
        self.assertEqual(tags, [("a", 2, 0), ("a", 3, 0), ("a", 4, 0)])
        items = {new: fresh(new, expected, member, (TRACE_A, "x", ".y"), (EVE, ALL), 11)
                 for new, member in zip(tags, (BOB, ANN, BOB))}
        self.assertEqual(snapshot(state), changed(
            before, count=4, serial=4, queue={("a", 1, 0): before["queue"]["a", 1, 0], **items}))

    def test_the_owner_becomes_the_sender(self):
        self.assert_expanded(BOB, ANN, ANN)

    def test_without_an_owner_the_sender_stays(self):
        self.assert_expanded(BOB, None, BOB)

    def test_the_empty_sender_stays_empty(self):
        self.assert_expanded(None, ANN, None)
        self.assert_expanded(None, None, None)

    def test_without_members(self):
        state = state_after(("submit", ANN, (ALL,), LINES, 0))
        before = snapshot(state)
        self.assertEqual(state.apply(("expand", ("a", 1, 0), ANN, (), 3)), [])
        self.assertEqual(snapshot(state), changed(before, count=2, queue={}))

    def test_the_via_grows(self):
        state = state_after(("submit", ANN, (ALL,), LINES, 0), ("expand", ("a", 1, 0), None, (ALL,), 1),
                            ("expand", ("a", 2, 0), None, (BOB,), 2))
        self.assertEqual(shown(state.queue["a", 3, 0]),
                         fresh(("a", 3, 0), ANN, BOB, (TRACE_A,) + LINES, (ALL, ALL), 2))


class Bounce(unittest.TestCase):
    def test_a_sender_gets_a_report(self):
        state = state_after(("submit", BOB, (EVE, ANN), LINES, 2), ("doubt", ("a", 1, 0), "b"))
        before = snapshot(state)
        self.assertEqual(state.apply(("bounce", ("a", 1, 0), "refused by b: 552 long", 8)), [("a", 3, 0)])
        lines = (TRACE_A, "Subject: undelivered", "", "Recipient: eve@c", "Reason: refused by b: 552 long")
        item = fresh(("a", 3, 0), None, BOB, lines, (), 8)
        self.assertEqual(snapshot(state), changed(
            before, count=3, serial=3,
            queue={("a", 2, 0): before["queue"]["a", 2, 0], ("a", 3, 0): item}))

    def test_the_report_is_that_of_promise_26(self):
        tag = ("b", 4, 1)
        for reason in ("loop", "no route", "expired", "refused by b: 550 unknown"):
            state = state_after(("take", "b", tag, BOB, ALL, (EVE,), LINES, 2), ("bounce", tag, reason, 5))
            item = state.queue["a", 1, 0]
            self.assertEqual(item.lines, (TRACE_A,) + report(ALL, reason))
            self.assertEqual(item.lines[1:], ("Subject: undelivered", "", "Recipient: all@a", "Reason: " + reason))
            self.assertEqual((item.sender, item.recipient, item.via), (None, BOB, ()))
            self.assertEqual(state.taken, {tag: "b"})

    def test_the_empty_sender_gets_none(self):
        state = state_after(("submit", None, (BOB, ANN), LINES, 2))
        before = snapshot(state)
        self.assertEqual(state.apply(("bounce", ("a", 1, 0), "expired", 8)), [])
        self.assertEqual(snapshot(state), changed(
            before, count=2, queue={("a", 2, 0): before["queue"]["a", 2, 0]}))

    def test_a_report_that_bounces_leads_to_nothing(self):
        state = state_after(("submit", BOB, (EVE,), LINES, 2), ("bounce", ("a", 1, 0), "loop", 3))
        self.assertEqual(state.apply(("bounce", ("a", 2, 0), "loop", 4)), [])
        self.assertEqual((state.queue, state.serial, state.count), ({}, 2, 3))


class RandomEvents:
    """Events that are possible in a state, as a random run of a host would add them."""

    def __init__(self, seed):
        self.chance = random.Random(seed)
        self.outside = 0

    def event(self, state):
        """Return a possible event."""
        while True:
            word = self.chance.choice(("submit", "take", "doubt", "retry", "passed", "forgotten", "forget",
                                       "deliver", "expand", "bounce", "flag", "expunge"))
            details = getattr(self, "_" + word)(state)
            if details is not None:
                return (word,) + details

    def _tag(self, among):
        return self.chance.choice(sorted(among)) if among else None

    def _address(self):
        return self.chance.choice((ANN, BOB, EVE, ALL))

    def _addresses(self, least):
        return tuple(self._address() for _ in range(self.chance.randrange(least, 4)))

    def _submit(self, state):
        sender = self.chance.choice((None, ANN, BOB))
        return (sender, self._addresses(1), LINES, self.chance.randrange(50))

    def _take(self, state):
        self.outside += 1
        tag = ("z", self.outside, self.chance.randrange(1, 5))
        return ("z", tag, self.chance.choice((None, BOB)), self._address(), self._addresses(0), LINES, 5)

    def _doubt(self, state):
        tag = self._tag(state.queue)
        return tag and (tag, "b")

    def _retry(self, state):
        tag = self._tag(state.queue)
        return tag and (tag, self.chance.randrange(9), self.chance.randrange(99))

    _passed = _doubt

    def _forgotten(self, state):
        tag = self._tag(state.owed)
        return tag and (tag,)

    def _forget(self, state):
        tag = self._tag(state.taken)
        return tag and (tag,)

    def _deliver(self, state):
        tag = self._tag(state.queue)
        return tag and (tag, self.chance.choice(("ann", "zoe")))

    def _expand(self, state):
        tag = self._tag(state.queue)
        return tag and (tag, self.chance.choice((None, EVE)), self._addresses(0), 60)

    def _bounce(self, state):
        tag = self._tag(state.queue)
        return tag and (tag, "expired", 70)

    def _entry(self, state):
        entries = [(user, entry[0]) for user in sorted(state.boxes) for entry in state.boxes[user].entries]
        return self.chance.choice(entries) if entries else None

    def _flag(self, state):
        entry = self._entry(state)
        return entry and entry + (("seen", "draft"),)

    def _expunge(self, state):
        return self._entry(state)


class Values(unittest.TestCase):
    """Promise 27."""

    def test_the_empty_state(self):
        value = State("a").to_value()
        self.assertIs(type(value), tuple)
        self.assertEqual(snapshot(state_of(value)), snapshot(State("a")))

    def test_kinds(self):
        state = state_after(("submit", ANN, (ANN, BOB), LINES, 1), ("deliver", ("a", 1, 0), "ann"),
                            ("take", "b", ("b", 1, 1), ANN, BOB, (ALL,), LINES, 1))
        made = state_of(state.to_value())
        self.assertIs(type(made), State)
        self.assertEqual([type(part) for part in (made.queue, made.boxes, made.taken, made.owed)], [dict] * 4)
        self.assertEqual({type(item) for item in made.queue.values()}, {Item})
        self.assertEqual({type(box) for box in made.boxes.values()}, {Box})

    def test_a_state_that_is_made_again_goes_on_in_the_same_way(self):
        for seed in range(60):
            events = RandomEvents(seed)
            state = State("a")
            for _ in range(events.chance.randrange(40)):
                state.apply(events.event(state))
            value = state.to_value()
            self.assertEqual(unpack(pack(value))[0], value)
            kept = copy.deepcopy(value)
            before = snapshot(state)
            made = state_of(value)
            self.assertEqual(snapshot(made), before)
            self.assertEqual(made.to_value(), value)
            following = []
            for _ in range(15):
                following.append(events.event(made))
                made.apply(following[-1])
            self.assertEqual(snapshot(state), before)
            self.assertEqual(value, kept)
            again = state_of(value)
            for event in following:
                self.assertEqual(state.apply(event), again.apply(event))
            self.assertEqual(snapshot(state), snapshot(made))
            self.assertEqual(snapshot(again), snapshot(made))

    def test_two_states_of_one_value_are_not_shared(self):
        state = state_after(("submit", ANN, (ANN, BOB), LINES, 1), ("deliver", ("a", 1, 0), "ann"))
        one, other = state_of(state.to_value()), state_of(state.to_value())
        one.apply(("doubt", ("a", 2, 0), "b"))
        one.apply(("flag", "ann", 1, ("seen",)))
        self.assertEqual(snapshot(other), snapshot(state))

    def test_the_value_does_not_change_with_the_state(self):
        state = state_after(("submit", ANN, (ANN, BOB), LINES, 1))
        value = state.to_value()
        kept = copy.deepcopy(value)
        state.apply(("doubt", ("a", 2, 0), "b"))
        state.apply(("deliver", ("a", 1, 0), "ann"))
        self.assertEqual(value, kept)

    def test_each_part_is_in_the_value(self):
        base = state_after(("submit", ANN, (ANN, ANN, BOB), LINES, 1), ("deliver", ("a", 1, 0), "ann"),
                           ("take", "b", ("b", 1, 1), ANN, BOB, (ALL,), LINES, 1), ("passed", ("a", 3, 0), "b"))
        for event in [("doubt", ("a", 2, 0), "b"), ("retry", ("a", 2, 0), 1, 1), ("forget", ("b", 1, 1)),
                      ("forgotten", ("a", 3, 1)), ("flag", "ann", 1, ("x",)), ("submit", ANN, (BOB,), (), 1)]:
            state = state_of(base.to_value())
            state.apply(event)
            self.assertEqual(state.count, 5)
            self.assertNotEqual(state.to_value()[2:], base.to_value()[2:], event)


class Arguments(unittest.TestCase):
    """Promise 1: an event that is applied stays as it was; only the state changes."""

    def test_events_stay_as_they_were(self):
        for seed in range(20):
            events = RandomEvents(500 + seed)
            state = State("a")
            for number in range(40):
                event = events.event(state)
                kept = copy.deepcopy(event)
                state.apply(event)
                self.assertEqual(event, kept)
                self.assertEqual(state.count, number + 1)

    def test_two_states_do_not_touch_each_other(self):
        one, other = State("a"), State("a")
        one.apply(("submit", ANN, (BOB,), LINES, 1))
        self.assertEqual(snapshot(other), snapshot(State("a")))


if __name__ == "__main__":
    unittest.main()
