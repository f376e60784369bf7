"""The deeds with pages [52], and the pager [53]."""

import unittest
from itertools import permutations

from belowall.plans import standard
from tests.leading import IDLE, all_hands_go, go, go_all, go_words, machine_of
from tests.tables import DEEDS, every_order

KID = ((("take", 0),),)


def by(deed, *order):
    """Return the standard plan with another order of one deed."""
    return standard().with_order(deed, order)


def frames_of(machine):
    """Return the dict from the frames that are taken to (count, first value, second value)."""
    return {row[0]: row[1:] for row in machine.frames()}


class DeedCase(unittest.TestCase):
    def look(self, machine, table=None, cache=None, frames=None, slots=None, process=(), hand=(0,)):
        if table is not None:
            self.assertEqual(machine.table(process), table)
        if cache is not None:
            self.assertEqual(machine.cache(hand), cache)
        if frames is not None:
            self.assertEqual(machine.frames(), frames)
        if slots is not None:
            self.assertEqual(machine.slots(), slots)


class MapTest(DeedCase):
    def test_standard(self):
        machine = machine_of((("map", 4), ("write", 4, 0, 7), ("drop", 4), ("map", 2)))
        self.assertEqual(machine.step((0,)), ("map", "wipe"))
        self.look(machine, {}, {}, [(0, 1, 0, 0)])
        self.assertEqual(machine.told(), {(0,): []})
        self.assertEqual(machine.step((0,)), ("map", "put"))
        self.look(machine, {4: ("in", 0, True)}, {}, [(0, 1, 0, 0)])
        self.assertEqual(machine.told(), {(0,): ["done"]})
        go(machine, (0,), 1 + 3)
        self.look(machine, {}, {}, [])
        # What the frame had stays till the wipe.
        self.assertEqual(machine.step((0,)), ("map", "wipe"))
        self.look(machine, {}, {}, [(0, 1, 0, 0)])

    def test_put_ahead_of_wipe(self):
        machine = machine_of((("map", 4), ("write", 4, 0, 7), ("drop", 4), ("map", 2), ("read", 2, 0)),
                             (("read", 2, 0), ("read", 2, 0)), plan=by("map", "put", "wipe"))
        go(machine, (0,), 2 + 1 + 3)
        self.assertEqual(machine.step((0,)), ("map", "put"))
        self.look(machine, {2: ("in", 0, True)}, {}, [(0, 1, 7, 0)])
        self.assertEqual(machine.step((1,)), ("access", "done"))
        self.assertEqual(machine.step((0,)), ("map", "wipe"))
        self.look(machine, frames=[(0, 1, 0, 0)])
        self.assertEqual([machine.step((1,)), machine.told()[(1,)]], [("access", "done"), [7, 0]])

    def test_there(self):
        machine = machine_of((("map", 4), ("map", 4)))
        go(machine, (0,), 2)
        self.assertEqual([machine.step((0,)), machine.told()], [("map", "there"), {(0,): ["done", "there"]}])
        self.look(machine, {4: ("in", 0, True)}, {}, [(0, 1, 0, 0)])


class AccessTest(DeedCase):
    def test_read_and_write(self):
        machine = machine_of((("read", 0, 0), ("write", 0, 0, 5), ("map", 0), ("write", 0, 1, 5), ("read", 0, 1)))
        self.assertEqual(go(machine, (0,), 2), [("fault", "none")] * 2)
        self.look(machine, {}, {}, [])
        go(machine, (0,), 2)
        self.look(machine, cache={})
        self.assertEqual(machine.step((0,)), ("access", "done"))
        self.look(machine, {0: ("in", 0, True)}, {0: (0, True)}, [(0, 1, 0, 5)])
        self.assertEqual(machine.step((0,)), ("access", "done"))
        self.assertEqual(machine.told(), {(0,): ["none", "none", "done", "done", 5]})

    def test_access_by_the_cache_alone(self):
        """What is in a cache is reached by it, though the table has no entry any longer."""
        machine = machine_of((("map", 0), ("drop", 0)), (("write", 0, 0, 3), ("read", 0, 0), ("read", 0, 0)))
        go(machine, (0,), 2)
        go(machine, (1,))
        self.assertEqual(machine.step((0,)), ("drop", "shut"))
        self.look(machine, {}, {0: (0, True)}, hand=(1,))
        self.assertEqual([machine.step((1,)), machine.told()[(1,)]], [("access", "done"), ["done", 3]])
        self.assertEqual(machine.step((0,)), ("drop", "flush"))
        self.look(machine, {}, {}, hand=(1,))
        self.assertEqual([machine.state((1,)), machine.step((0,))], ["barred", ("drop", "lower")])
        self.assertEqual([machine.step((1,)), machine.told()[(1,)]], [("fault", "none"), ["done", 3, "none"]])

    def test_open(self):
        kid = ((("write", 0, 0, 4),),)
        machine = machine_of((("map", 0), ("fork", "kid", kid), ("drop", 0)), (("read", 0, 0),))
        go(machine, (0,), 2 + 4)
        go(machine, (1,))
        self.look(machine, {0: ("in", 0, False)}, {0: (0, False)}, [(0, 2, 0, 0)], hand=(1,))
        go(machine, (0,), 3)
        self.look(machine, {0: ("in", 0, False)}, process=(0, 1), frames=[(0, 1, 0, 0)])
        self.assertEqual(machine.step((0, 1, 0)), ("fault", "open"))
        self.look(machine, {0: ("in", 0, True)}, {}, [(0, 1, 0, 0)], process=(0, 1), hand=(0, 1, 0))
        self.assertEqual(machine.told()[(0, 1, 0)], [])
        self.assertEqual(machine.step((0, 1, 0)), ("access", "done"))
        self.look(machine, cache={0: (0, True)}, frames=[(0, 1, 4, 0)], hand=(0, 1, 0))


class CopyTest(DeedCase):
    def shared(self, plan=None, calls=(("write", 0, 0, 5), ("read", 0, 0)), kid=KID):
        """Return a machine with two hands whose page, with the value 3, is shared with a kid, and in both caches."""
        machine = machine_of((("map", 0), ("write", 0, 0, 3), ("fork", "kid", kid)) + calls,
                             (("read", 0, 0),) * 4, rooms=(1,), plan=plan)
        go(machine, (0,), 2 + 1 + 4)
        go(machine, (1,))
        self.look(machine, {0: ("in", 0, False)}, {0: (0, False)}, [(0, 2, 3, 0)], hand=(1,))
        return machine

    def test_standard(self):
        machine = self.shared()
        self.assertEqual(machine.step((0,)), ("copy", "shut"))
        self.look(machine, {}, {0: (0, False)}, [(0, 2, 3, 0), (1, 1, 0, 0)], hand=(1,))
        self.assertEqual(machine.step((0,)), ("copy", "flush"))
        self.look(machine, {}, {}, hand=(1,))
        self.look(machine, {0: ("in", 0, False)}, process=(0, 2))
        self.assertEqual(machine.step((0,)), ("copy", "fill"))
        self.look(machine, {}, frames=[(0, 2, 3, 0), (1, 1, 3, 0)])
        self.assertEqual(machine.step((0,)), ("copy", "put"))
        self.look(machine, {0: ("in", 1, True)}, {}, [(0, 2, 3, 0), (1, 1, 3, 0)])
        self.assertEqual(machine.step((0,)), ("copy", "lower"))
        self.look(machine, frames=[(0, 1, 3, 0), (1, 1, 3, 0)])
        self.assertEqual(machine.told()[(0,)], ["done"] * 3)
        self.assertEqual(machine.step((0,)), ("access", "done"))
        self.look(machine, {0: ("in", 1, True)}, {0: (1, True)}, [(0, 1, 3, 0), (1, 1, 5, 0)])
        self.assertEqual([machine.step((1,)), machine.told()[(1,)]], [("access", "done"), [3, 5]])

    def test_all_orders(self):
        for order in every_order("copy"):
            machine = self.shared(by("copy", *order))
            table, cache, frames = {0: ("in", 0, False)}, {0: (0, False)}, {0: (2, 3, 0), 1: (1, 0, 0)}
            for step in order:
                self.assertEqual(machine.step((0,)), ("copy", step))
                if step == "shut":
                    table = {}
                elif step == "put":
                    table = {0: ("in", 1, True)}
                elif step == "flush":
                    cache = {}
                elif step == "fill":
                    frames[1] = (1, 3, 0)
                else:
                    frames[0] = (1, 3, 0)
                self.assertEqual([machine.table(()), machine.cache((1,)), frames_of(machine)], [table, cache, frames])
            self.assertEqual(machine.told()[(0,)], ["done"] * 3)
            is_kept = order.index("shut") < order.index("put")
            self.assertEqual(machine.step((0,)), ("access", "done") if is_kept else ("fault", "none"))

    def test_lower_left_out(self):
        machine = self.shared(by("copy", "shut", "flush", "fill", "put"))
        self.assertEqual(go_words(machine, (0,), "copy"), ["shut", "flush", "fill", "put"])
        self.look(machine, {0: ("in", 1, True)}, frames=[(0, 2, 3, 0), (1, 1, 3, 0)])
        # The kid, though alone in its frame, copies it too.
        other = self.shared(by("copy", "shut", "flush", "fill", "put"), kid=((("write", 0, 0, 1),),))
        go(other, (0,), 4)
        self.assertEqual(go_words(other, (0, 2, 0), "copy"), ["shut", "flush", "fill", "put"])

    def test_what_is_filled_is_found_at_the_step(self):
        """The old frame is found when the copy begins, its values when it is filled from."""
        machine = machine_of((("map", 0), ("fork", "kid", ((("write", 0, 0, 9), ("read", 0, 0)),)), ("write", 0, 0, 5)),
                             plan=by("copy", "lower", "shut", "flush", "fill", "put"))
        go(machine, (0,), 2 + 4)
        self.assertEqual(machine.step((0,)), ("copy", "lower"))
        self.assertEqual(go(machine, (0, 1, 0), 2), [("fault", "open"), ("access", "done")])
        go(machine, (0,), 3)
        self.assertEqual(frames_of(machine), {0: (1, 9, 0), 1: (1, 9, 0)})

    def test_other_hand_waits_and_goes_on_behind_put(self):
        machine = self.shared()
        go(machine, (0,), 3)
        self.assertEqual(machine.state((1,)), "barred")
        go(machine, (0,))
        self.assertEqual([machine.state((1,)), machine.step((1,))], ["able", ("access", "done")])
        self.look(machine, cache={0: (1, True)}, hand=(1,))

    def test_copied_by_both_at_once(self):
        """Two processes hold their own locks: the frame is lowered by both."""
        machine = self.shared(kid=((("write", 0, 1, 8), ("read", 0, 0)),))
        go(machine, (0,), 1)
        go(machine, (0, 2, 0), 1)
        self.assertEqual(frames_of(machine), {0: (2, 3, 0), 1: (1, 0, 0), 2: (1, 0, 0)})
        go(machine, (0,), 4)
        go(machine, (0, 2, 0), 4)
        self.assertEqual(frames_of(machine), {1: (1, 3, 0), 2: (1, 3, 0)})


class DropTest(DeedCase):
    def test_standard(self):
        machine = machine_of((("map", 0), ("map", 1), ("read", 0, 0), ("read", 1, 0), ("drop", 0)),
                             (("read", 0, 0), ("read", 1, 0), ("wait",)))
        go(machine, (0,), 6)
        go(machine, (1,), 2)
        self.assertEqual(machine.step((0,)), ("drop", "shut"))
        self.look(machine, {1: ("in", 1, True)}, {0: (0, True), 1: (1, True)}, [(0, 1, 0, 0), (1, 1, 0, 0)])
        self.assertEqual(machine.step((0,)), ("drop", "flush"))
        for hand in [(0,), (1,)]:
            self.look(machine, {1: ("in", 1, True)}, {1: (1, True)}, [(0, 1, 0, 0), (1, 1, 0, 0)], hand=hand)
        self.assertEqual(machine.told()[(0,)], ["done", "done", 0, 0])
        self.assertEqual(machine.step((0,)), ("drop", "lower"))
        self.look(machine, {1: ("in", 1, True)}, {1: (1, True)}, [(1, 1, 0, 0)])
        self.assertEqual(machine.told()[(0,)], ["done", "done", 0, 0, "done"])

    def test_all_orders(self):
        for order in every_order("drop"):
            machine = machine_of((("map", 0), ("read", 0, 0), ("drop", 0)), (("wait",),), plan=by("drop", *order))
            go(machine, (0,), 3)
            table, cache, frames = {0: ("in", 0, True)}, {0: (0, True)}, [(0, 1, 0, 0)]
            for step in order:
                self.assertEqual(machine.step((0,)), ("drop", step))
                table = {} if step == "shut" else table
                cache = {} if step == "flush" else cache
                frames = [] if step == "lower" else frames
                self.look(machine, table, cache, frames)
            self.assertEqual(machine.told()[(0,)], ["done", 0, "done"])

    def test_none(self):
        machine = machine_of((("drop", 3), ("map", 3)))
        self.assertEqual([machine.step((0,)), machine.told()[(0,)]], [("drop", "none"), ["none"]])

    def test_drop_of_a_slot(self):
        machine = machine_of((("map", 0), ("write", 0, 0, 3), ("drop", 0)), (("wait",),), outs=(("root", 0),))
        go(machine, (0,), 3)
        go(machine, (), 4)
        self.look(machine, {0: ("out", 0)}, frames=[], slots=[(0, 1, 3, 0)])
        go(machine, (0,), 2)
        self.look(machine, {}, frames=[], slots=[(0, 1, 3, 0)])
        go(machine, (0,))
        self.look(machine, {}, frames=[], slots=[])

    def test_drop_of_a_shared_frame(self):
        machine = machine_of((("map", 0), ("fork", "kid", KID), ("drop", 0)), (("wait",),), rooms=(1,))
        go(machine, (0,), 2 + 4 + 3)
        self.look(machine, {}, frames=[(0, 1, 0, 0)])
        self.look(machine, {0: ("in", 0, False)}, process=(0, 1))

    def test_all_pages_of_a_process_that_closes(self):
        machine = machine_of((("map", 2), ("map", 0), ("read", 2, 0), ("map", 1), ("read", 0, 0)), outs=(("root", 1),))
        go(machine, (0,), 8 - 1)
        go(machine, (), 4)
        self.assertEqual(machine.step((0,)), ("access", "done"))
        self.look(machine, {0: ("in", 1, True), 1: ("out", 0), 2: ("in", 0, True)}, {0: (1, True), 2: (0, True)},
                  [(0, 1, 0, 0), (1, 1, 0, 0)], [(0, 1, 0, 0)])
        self.assertEqual(machine.step((0,)), ("drop", "shut"))
        self.look(machine, {}, {0: (1, True), 2: (0, True)}, [(0, 1, 0, 0), (1, 1, 0, 0)], [(0, 1, 0, 0)])
        self.assertEqual(machine.step((0,)), ("drop", "flush"))
        self.look(machine, {}, {}, [(0, 1, 0, 0), (1, 1, 0, 0)], [(0, 1, 0, 0)])
        self.assertEqual(machine.step((0,)), ("drop", "lower"))
        self.look(machine, {}, {}, [], [])
        self.assertEqual(machine.told(), {(0,): ["done", "done", 0, "done", 0]})

    def test_lower_left_out(self):
        machine = machine_of((("map", 0), ("drop", 0)), (("wait",),), plan=by("drop", "flush", "shut"))
        self.assertEqual([go(machine, (0,), 4)[2:], machine.table(()), machine.frames()],
                         [[("drop", "flush"), ("drop", "shut")], {}, [(0, 1, 0, 0)]])


class OutTest(DeedCase):
    def mapped(self, plan=None, outs=(("root", 0),), calls=(("read", 0, 1), ("read", 0, 1))):
        machine = machine_of((("map", 0), ("write", 0, 1, 6)) + calls, (("read", 0, 1), ("wait",)), outs=outs, plan=plan)
        go(machine, (0,), 3)
        go(machine, (1,))
        return machine

    def test_standard(self):
        machine = self.mapped()
        self.assertEqual(machine.step(()), ("out", "shut"))
        self.look(machine, {0: ("out", 0)}, {0: (0, True)}, [(0, 1, 0, 6)], [(0, 1, 0, 0)])
        self.assertEqual(machine.step(()), ("out", "flush"))
        for hand in [(0,), (1,)]:
            self.look(machine, {0: ("out", 0)}, {}, [(0, 1, 0, 6)], [(0, 1, 0, 0)], hand=hand)
        self.assertEqual(machine.step(()), ("out", "save"))
        self.look(machine, {0: ("out", 0)}, {}, [(0, 1, 0, 6)], [(0, 1, 0, 6)])
        self.assertEqual(machine.step(()), ("out", "lower"))
        self.look(machine, {0: ("out", 0)}, {}, [], [(0, 1, 0, 6)])

    def test_all_orders(self):
        for order in every_order("out"):
            machine = self.mapped(by("out", *order))
            table, cache, frames, slots = {0: ("in", 0, True)}, {0: (0, True)}, [(0, 1, 0, 6)], [(0, 1, 0, 0)]
            for step in order:
                self.assertEqual(machine.step(()), ("out", step))
                table = {0: ("out", 0)} if step == "shut" else table
                cache = {} if step == "flush" else cache
                slots = [(0, 1, 0, 6)] if step == "save" else slots
                frames = [] if step == "lower" else frames
                self.look(machine, table, cache, frames, slots)

    def test_values_saved_are_those_at_the_step(self):
        machine = self.mapped(by("out", "flush", "lower", "shut", "save"), calls=(("write", 0, 0, 8),))
        go(machine, (), 2)
        self.assertEqual(machine.step((0,)), ("access", "done"))
        go(machine, (), 2)
        self.look(machine, {0: ("out", 0)}, {0: (0, True)}, [], [(0, 1, 8, 6)])

    def test_an_entry_that_is_not_writable(self):
        machine = machine_of((("map", 0), ("fork", "kid", KID), ("wait",)), rooms=(1,), outs=(("root", 0), ("kid", 0)))
        go(machine, (0,), 2 + 4)
        go(machine, (), 4)
        self.look(machine, {0: ("out", 0)}, frames=[(0, 1, 0, 0)], slots=[(0, 1, 0, 0)])
        self.look(machine, {0: ("in", 0, False)}, process=(0, 1))
        go(machine, (), 4)
        self.look(machine, {0: ("out", 1)}, process=(0, 1), frames=[], slots=[(0, 1, 0, 0), (1, 1, 0, 0)])


class FetchTest(DeedCase):
    def put_out(self, plan=None, call=("read", 0, 1)):
        machine = machine_of((("map", 0), ("write", 0, 1, 6), call, ("wait",)), (("read", 0, 0),),
                             outs=(("root", 0),) * 2, plan=plan)
        go(machine, (0,), 3)
        go(machine, (), 4)
        self.look(machine, {0: ("out", 0)}, {}, [], [(0, 1, 0, 6)])
        return machine

    def test_standard(self):
        machine = self.put_out()
        self.assertEqual(machine.step((0,)), ("fetch", "load"))
        self.look(machine, {0: ("out", 0)}, {}, [(0, 1, 0, 6)], [(0, 1, 0, 6)])
        self.assertEqual([machine.state((1,)), machine.step((0,))], ["barred", ("fetch", "put")])
        self.look(machine, {0: ("in", 0, True)}, {}, [(0, 1, 0, 6)], [(0, 1, 0, 6)])
        self.assertEqual(machine.step((0,)), ("fetch", "leave"))
        self.look(machine, {0: ("in", 0, True)}, {}, [(0, 1, 0, 6)], [])
        self.assertEqual(machine.told()[(0,)], ["done", "done"])
        self.assertEqual([machine.step((0,)), machine.told()[(0,)]], [("access", "done"), ["done", "done", 6]])

    def test_all_orders(self):
        for order in every_order("fetch"):
            for call in (("read", 0, 1), ("write", 0, 0, 2)):
                machine = self.put_out(by("fetch", *order), call)
                table, frames, slots = {0: ("out", 0)}, [(0, 1, 0, 6)], [(0, 1, 0, 6)]
                for step in order:
                    self.assertEqual(machine.step((0,)), ("fetch", step))
                    table = {0: ("in", 0, True)} if step == "put" else table
                    slots = [] if step == "leave" else slots
                    # The frame had these values ahead of the out, and keeps them though it is not loaded yet.
                    self.look(machine, table, {}, frames, slots)
                self.assertEqual(machine.step((0,)), ("access", "done"))

    def test_load_is_of_the_slot(self):
        """The frame that is taken has another page's values till it is loaded."""
        machine = machine_of((("map", 0), ("write", 0, 0, 6), ("take", 0), ("drop", 1), ("read", 0, 0)),
                             (("map", 1), ("write", 1, 0, 2), ("put", 0, 0)), rooms=(1,), outs=(("root", 0),))
        go(machine, (0,), 3)
        go(machine, (), 4)
        go(machine, (1,), 2 + 1 + 3)
        go(machine, (0,), 2 + 1 + 3)
        self.assertEqual(machine.told()[(0,)], ["done", "done", 0, "done"])
        self.look(machine, frames=[])
        self.assertEqual(machine.step((0,)), ("fetch", "load"))
        self.look(machine, frames=[(0, 1, 6, 0)])

    def test_put_out_again_ahead_of_the_access(self):
        machine = self.put_out()
        go(machine, (0,), 3)
        go(machine, (), 4)
        self.assertEqual(machine.step((0,)), ("fetch", "load"))
        self.assertEqual(go(machine, (0,), 3), [("fetch", "put"), ("fetch", "leave"), ("access", "done")])

    def test_slot_that_is_shared(self):
        kid = ((("read", 0, 0), ("take", 0)),)
        machine = machine_of((("map", 0), ("write", 0, 0, 4), ("fork", "kid", kid), ("read", 0, 0)), (("wait",),),
                             rooms=(1,), outs=(("root", 0),))
        go(machine, (0,), 3)
        go(machine, (), 4)
        go(machine, (0,), 4)
        self.look(machine, {0: ("out", 0)}, frames=[], slots=[(0, 2, 4, 0)])
        self.look(machine, {0: ("out", 0)}, process=(0, 2))
        go(machine, (0, 2, 0), 4)
        self.look(machine, {0: ("in", 0, True)}, process=(0, 2), frames=[(0, 1, 4, 0)], slots=[(0, 1, 4, 0)])
        go(machine, (0,), 4)
        self.look(machine, {0: ("in", 1, True)}, frames=[(0, 1, 4, 0), (1, 1, 4, 0)], slots=[])
        self.assertEqual([machine.told()[(0,)][-1], machine.told()[(0, 2, 0)]], [4, [4]])


class ForkTest(DeedCase):
    def ready(self, plan=None):
        machine = machine_of((("map", 0), ("write", 0, 0, 3), ("map", 1), ("read", 1, 0), ("map", 2),
                              ("fork", "kid", ((("read", 0, 0), ("take", 0)), (("read", 1, 0),))), ("wait",)),
                             (("read", 0, 0), ("read", 0, 0), ("write", 0, 0, 8)), rooms=(1,),
                             outs=(("root", 2),), plan=plan)
        go(machine, (0,), 2 + 1 + 2 + 1 + 2)
        go(machine, (), 4)
        go(machine, (1,))
        self.look(machine, {0: ("in", 0, True), 1: ("in", 1, True), 2: ("out", 0)}, {0: (0, True), 1: (1, True)},
                  [(0, 1, 3, 0), (1, 1, 0, 0)], [(0, 1, 0, 0)])
        return machine

    shut_off = {0: ("in", 0, False), 1: ("in", 1, False), 2: ("out", 0)}

    def test_standard(self):
        machine = self.ready()
        self.assertEqual(machine.step((0,)), ("fork", "mark"))
        self.look(machine, self.shut_off, {0: (0, True), 1: (1, True)}, [(0, 1, 3, 0), (1, 1, 0, 0)], [(0, 1, 0, 0)])
        self.assertEqual(machine.step((0,)), ("fork", "flush"))
        for hand in [(0,), (1,)]:
            self.look(machine, self.shut_off, {}, hand=hand)
        self.assertEqual(machine.step((0,)), ("fork", "raise"))
        self.look(machine, self.shut_off, {}, [(0, 2, 3, 0), (1, 2, 0, 0)], [(0, 2, 0, 0)])
        self.assertEqual([machine.hands(), machine.there()], [[(0,), (1,)], ["root"]])
        self.assertEqual(machine.told()[(0,)], ["done", "done", "done", 0, "done"])
        self.assertEqual(machine.step((0,)), ("fork", "start"))
        self.look(machine, self.shut_off, {}, [(0, 2, 3, 0), (1, 2, 0, 0)], [(0, 2, 0, 0)], (0, 5), (0, 5, 0))
        self.assertEqual([machine.hands(), machine.there()], [[(0,), (0, 5, 0), (0, 5, 1), (1,)], ["kid", "root"]])
        self.assertEqual(machine.told()[(0,)], ["done", "done", "done", 0, "done", "done"])
        self.assertEqual([machine.told()[(0, 5, 0)], machine.cache((0, 5, 1)), machine.flags()], [[], {}, []])
        self.assertEqual([machine.step((0, 5, 0)), machine.told()[(0, 5, 0)]], [("access", "done"), [3]])
        self.look(machine, cache={0: (0, False)}, hand=(0, 5, 0))

    def test_all_orders(self):
        for order in permutations(DEEDS["fork"]):
            machine = self.ready(by("fork", *order))
            table, cache, counts = machine.table(()), {0: (0, True)}, 1
            for step in order:
                self.assertEqual(machine.step((0,)), ("fork", step))
                table = self.shut_off if step == "mark" else table
                cache = {} if step == "flush" else cache
                counts = 2 if step == "raise" else counts
                self.look(machine, table, cache, [(0, counts, 3, 0), (1, counts, 0, 0)], [(0, counts, 0, 0)], hand=(1,))
                is_there = "start" in order[:order.index(step) + 1]
                self.assertEqual(machine.there(), ["kid", "root"] if is_there else ["root"])
                if is_there:
                    self.look(machine, self.shut_off, {}, process=(0, 5), hand=(0, 5, 0))
                    self.assertIn((0, 5, 0), machine.able())
            self.assertEqual(machine.told()[(0,)][-1], "done")

    def test_other_hand_writes_by_its_cache_till_the_flush(self):
        machine = self.ready()
        go(machine, (1,))
        go(machine, (0,))
        self.assertEqual(machine.step((1,)), ("access", "done"))
        self.look(machine, self.shut_off, {0: (0, True)}, [(0, 1, 8, 0), (1, 1, 0, 0)], hand=(1,))

    def test_other_hand_is_barred_behind_the_flush(self):
        machine = self.ready()
        go(machine, (1,))
        go(machine, (0,), 2)
        self.assertEqual(machine.state((1,)), "barred")
        go(machine, (0,), 2)
        self.assertEqual(go_words(machine, (1,), "copy"), ["shut", "flush", "fill", "put", "lower"])

    def test_kid_begins_ahead_of_the_raise(self):
        kid = ((("write", 0, 0, 1), ("read", 0, 0)),)
        machine = machine_of((("map", 0), ("fork", "kid", kid), ("read", 0, 0)),
                             plan=by("fork", "mark", "flush", "start", "raise"))
        go(machine, (0,), 2 + 3)
        self.assertEqual(go(machine, (0, 1, 0), 2), [("fault", "open"), ("access", "done")])
        self.assertEqual(machine.told(), {(0,): ["done"], (0, 1, 0): ["done"]})
        go(machine, (0,), 2)
        self.assertEqual([machine.told()[(0,)], machine.frames()], [["done", "done", 1], [(0, 2, 1, 0)]])

    def test_a_name_that_is_in_use(self):
        machine = machine_of((("fork", "root", IDLE), ("fork", "kid", IDLE), ("fork", "kid", KID)), rooms=(1,))
        self.assertEqual(machine.step((0,)), ("fork", "there"))
        go(machine, (0,), 4)
        self.assertEqual([machine.step((0,)), machine.told()[(0,)]], [("fork", "there"), ["there", "done", "there"]])
        self.assertEqual(machine.hands(), [(0,), (0, 1, 0)])


class PagerTest(DeedCase):
    def test_no_outs(self):
        machine = machine_of((("map", 0),))
        self.assertNotIn((), machine.able())

    def test_skips(self):
        outs = (("root", 0), ("nobody", 0), ("root", 1), ("root", 0), ("root", 0), ("root", 1))
        machine = machine_of((("map", 0), ("wait",), ("wait",)), outs=outs)
        self.assertEqual([machine.able(), machine.step(())], [[(), (0,)], ("out", "skip")])
        go(machine, (0,), 2)
        self.assertEqual(go(machine, (), 2), [("out", "skip")] * 2)
        self.assertEqual(go_words(machine, (), "out")[:4], ["shut", "flush", "save", "lower"])
        self.assertEqual([machine.able(), machine.table(()), machine.slots()], [[(0,)], {0: ("out", 0)}, [(0, 1, 0, 0)]])

    def test_steps_of_skips_one_by_one(self):
        machine = machine_of((("map", 0),), outs=(("root", 1),) * 3)
        before = (machine.table(()), machine.frames(), machine.slots(), machine.told())
        self.assertEqual(go_all(machine, ()), [("out", "skip")] * 3)
        self.assertEqual((machine.table(()), machine.frames(), machine.slots(), machine.told()), before)

    def test_a_page_that_is_out_is_skipped(self):
        machine = machine_of((("map", 0), ("wait",)), outs=(("root", 0),) * 2)
        go(machine, (0,), 2)
        go(machine, (), 4)
        self.assertEqual([machine.step(()), machine.slots()], [("out", "skip"), [(0, 1, 0, 0)]])

    def test_a_process_that_has_ended_is_skipped(self):
        machine = machine_of((("map", 0), ("fork", "kid", IDLE), ("take", 0)), rooms=(1,), outs=(("kid", 0),))
        go(machine, (0,), 2 + 4)
        go_all(machine, (0, 1, 0))
        self.assertEqual([machine.there(), machine.table((0, 1)), machine.step(())],
                         [["kid", "root"], {}, ("out", "skip")])

    def test_waits_for_the_lock_of_the_process(self):
        for page in (0, 1):
            machine = machine_of((("map", 0), ("map", 1)), outs=(("root", page),))
            go(machine, (0,))
            self.assertEqual(machine.able(), [(0,)])
            go(machine, (0,))
            self.assertEqual(machine.able(), [(), (0,)])
            self.assertEqual(machine.step(()), ("out", "shut") if page == 0 else ("out", "skip"))

    def test_waits_for_no_lock_of_another_process(self):
        machine = machine_of((("map", 0), ("fork", "kid", ((("map", 1),),)), ("map", 1)), outs=(("kid", 0),) * 2)
        go(machine, (0,), 2 + 4 + 1)
        self.assertEqual(machine.step(()), ("out", "shut"))
        self.assertEqual(machine.state((0, 1, 0)), "barred")
        go(machine, (), 3)
        self.assertEqual([machine.step((0, 1, 0)), machine.able()], [("map", "wipe"), [(0,), (0, 1, 0)]])
        go(machine, (0, 1, 0))
        # Where nobody has the name, no lock is waited for.
        other = machine_of((("map", 0),), outs=(("kid", 0),))
        go(other, (0,))
        self.assertEqual(other.step(()), ("out", "skip"))

    def test_bars_the_hands_of_the_process(self):
        machine = machine_of((("map", 0), ("map", 1)), (("write", 1, 0, 1),), (("put", 0, 1),), rooms=(1,),
                             outs=(("root", 0),))
        go(machine, (0,), 2)
        for k in range(4):
            self.assertEqual(machine.step(())[0], "out")
            self.assertEqual(machine.state((0,)), "barred" if k < 3 else "able")
            self.assertEqual(machine.state((1,)), "barred" if k < 3 else "able")
            self.assertEqual(machine.state((2,)), "able")

    def test_closing_waits_for_the_pager(self):
        machine = machine_of((("map", 0),), outs=(("root", 0),))
        go(machine, (0,), 2)
        go(machine, (), 1)
        self.assertEqual(machine.state((0,)), "barred")
        go(machine, (), 3)
        self.assertEqual([machine.step((0,)), machine.table(()), machine.slots()], [("drop", "shut"), {}, [(0, 1, 0, 0)]])
        all_hands_go(machine)
        self.assertEqual([machine.slots(), machine.frames()], [[], []])

    def test_closing_of_a_kid_waits_for_the_pager(self):
        machine = machine_of((("map", 0), ("fork", "kid", IDLE), ("map", 1)), outs=(("kid", 0),))
        go(machine, (0,), 2 + 4)
        go(machine, (), 1)
        for _ in range(3):
            self.assertEqual([machine.state((0, 1, 0)), machine.state((0,))], ["barred", "able"])
            machine.step(())
        self.assertEqual([machine.state((0, 1, 0)), machine.step((0, 1, 0))], ["able", ("drop", "shut")])

    def test_nothing_behind_the_last(self):
        machine = machine_of((("map", 0), ("wait",)), outs=(("root", 0),))
        go(machine, (0,), 2)
        go(machine, (), 4)
        self.assertNotIn((), machine.able())


if __name__ == "__main__":
    unittest.main()
