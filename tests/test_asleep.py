"""Points 5, 21, 22 and 23: orders laid asleep, and how they wake."""

import unittest

from bellbook.errors import BadKind, NotNow, Twice
from bellbook.floor import Floor
from tests.helper import FloorCase, across, buy, floor_in, sell

NO_SLEEPERS = ["whole", "quiet", "", "Limit", "now ", "stop", "open"]


class LayTest(FloorCase):
    def test_in_the_phase_call(self):
        floor = Floor(100, 10)
        self.assertEqual(floor.lay("limit", buy("z1", 90, 5), 110), [("sleep", "z1", 110)])
        self.assertEqual(floor.lay(word="now", order=sell("z2", 95, 16, 4), trigger=80), [("sleep", "z2", 80)])
        # Their triggers are met, and they sleep all the same: the floor is not open.
        self.assertEqual(floor.lay("limit", buy("z3", 90, 5), 100), [("sleep", "z3", 100)])
        self.assertEqual(floor.lay("now", sell("z4", 90, 5), 100), [("sleep", "z4", 100)])
        self.assert_look(floor, "call", 100, [], [],
                         [("limit", buy("z1", 90, 5), 110), ("now", sell("z2", 95, 16, 4), 80),
                          ("limit", buy("z3", 90, 5), 100), ("now", sell("z4", 90, 5), 100)])

    def test_in_the_phase_open(self):
        floor = floor_in("open", sell("s1", 90))
        self.assertEqual(floor.lay("limit", buy("z1", 95, 5), 110), [("sleep", "z1", 110)])
        self.assertEqual(floor.lay("now", sell("z2", 95, 5), 80), [("sleep", "z2", 80)])
        # An order asleep stands in no line, so it meets nobody, and nobody meets it.
        self.assert_look(floor, "open", 100, [], [sell("s1", 90)],
                         [("limit", buy("z1", 95, 5), 110), ("now", sell("z2", 95, 5), 80)])
        self.assertEqual(floor.enter("quiet", sell("s2", 91)), [("rest", "s2", 5)])
        self.assertEqual(floor.enter("quiet", buy("b2", 89)), [("rest", "b2", 5)])

    def test_in_the_phase_halt(self):
        floor = floor_in("halt", buy("b1", 100))
        for word in ["limit", "now"]:
            self.assert_refused(NotNow, floor, "lay", word, buy("z1", 100), 110)
            self.assert_refused(NotNow, floor, "lay", word, buy("b1", 100), 110)

    def test_bad_kind(self):
        for phase in ["open", "call", "halt"]:
            floor = floor_in(phase, buy("b1", 100))
            for word in NO_SLEEPERS:
                self.assert_refused(BadKind, floor, "lay", word, buy("z1", 100), 110)
                self.assert_refused(BadKind, floor, "lay", word, buy("b1", 100), 110)

    def test_twice(self):
        for phase in ["open", "call"]:
            floor = floor_in(phase, buy("b1", 90), sell("s1", 110))
            floor.lay("limit", buy("z1", 90), 110)
            for word in ["limit", "now"]:
                for name in ["b1", "s1", "z1"]:
                    self.assert_refused(Twice, floor, "lay", word, buy(name, 90), 110)
                    self.assert_refused(Twice, floor, "lay", word, sell(name, 90), 100)

    def test_a_name_may_come_again(self):
        floor = floor_in("open")
        floor.lay("now", buy("z1", 90), 110)
        floor.take_out("z1")
        self.assertEqual(floor.lay("now", buy("z1", 90), 110), [("sleep", "z1", 110)])
        floor.take_out("z1")
        self.assertEqual(floor.lay("now", buy("z1", 90), 100),
                         [("sleep", "z1", 100), ("wake", "z1"), ("gone", "z1", 5)])
        self.assertEqual(floor.enter("limit", buy("z1", 90)), [("rest", "z1", 5)])


class WithinTheDeedTest(FloorCase):
    """An order whose trigger is met already wakes within the deed that lays it asleep."""

    def test_a_buyers_trigger(self):
        for trigger, woken in [(1, True), (99, True), (100, True), (101, False), (10 ** 9, False)]:
            floor = floor_in("open")
            facts = [("sleep", "z1", trigger)]
            if woken:
                facts += [("wake", "z1"), ("rest", "z1", 5)]
            with self.subTest(trigger=trigger):
                self.assertEqual(floor.lay("limit", buy("z1", 90), trigger), facts)
                if woken:
                    self.assert_look(floor, "open", 100, [buy("z1", 90)], [])
                else:
                    self.assert_look(floor, "open", 100, [], [], [("limit", buy("z1", 90), trigger)])

    def test_a_sellers_trigger(self):
        for trigger, woken in [(1, False), (99, False), (100, True), (101, True), (10 ** 9, True)]:
            floor = floor_in("open")
            facts = [("sleep", "z1", trigger)]
            if woken:
                facts += [("wake", "z1"), ("rest", "z1", 5)]
            with self.subTest(trigger=trigger):
                self.assertEqual(floor.lay("limit", sell("z1", 110), trigger), facts)
                if woken:
                    self.assert_look(floor, "open", 100, [], [sell("z1", 110)])
                else:
                    self.assert_look(floor, "open", 100, [], [], [("limit", sell("z1", 110), trigger)])

    def test_limit_meets_and_rests(self):
        floor = floor_in("open", sell("s1", 101, 3))
        self.assertEqual(floor.lay("limit", buy("z1", 101, 16, 4), 100),
                         [("sleep", "z1", 100), ("wake", "z1"), ("trade", "z1", "s1", 101, 3), ("rest", "z1", 13)])
        self.assert_look(floor, "open", 101, [("z1", "ann", "buy", 101, 13, 4, 4)], [])

    def test_now_meets_and_is_gone(self):
        floor = floor_in("open", sell("s1", 101, 3))
        self.assertEqual(floor.lay("now", buy("z1", 101, 5), 100),
                         [("sleep", "z1", 100), ("wake", "z1"), ("trade", "z1", "s1", 101, 3), ("gone", "z1", 2)])
        self.assert_look(floor, "open", 101, [], [])

    def test_it_shuns_orders_of_its_house(self):
        floor = floor_in("open", sell("s1", 101, 3, who="ann"))
        self.assertEqual(floor.lay("limit", buy("z1", 101, 5), 100),
                         [("sleep", "z1", 100), ("wake", "z1"), ("shun", "s1", 3), ("rest", "z1", 5)])

    def test_it_is_halted(self):
        floor = floor_in("open", sell("s1", 111, 3))
        self.assertEqual(floor.lay("now", buy("z1", 111, 5), 100),
                         [("sleep", "z1", 100), ("wake", "z1"), ("gone", "z1", 5), ("phase", "call")])
        self.assert_look(floor, "call", 100, [], [sell("s1", 111, 3)])

    def test_it_wakes_others_and_stays_asleep_itself(self):
        # z1 wakes in its own deed; its trade is what z0 slept for.
        floor = floor_in("open", sell("s1", 105, 3), sell("s2", 106, 2))
        floor.lay("limit", buy("z0", 106, 1), 105)
        self.assertEqual(floor.lay("now", buy("z1", 105, 3), 99),
                         [("sleep", "z1", 99), ("wake", "z1"), ("trade", "z1", "s1", 105, 3),
                          ("wake", "z0"), ("trade", "z0", "s2", 106, 1)])
        self.assert_look(floor, "open", 106, [], [sell("s2", 106, 1)])


class WakeTest(FloorCase):
    def test_behind_a_meeting_a_buyer_just_so_and_one_off(self):
        for trigger, woken in [(104, True), (105, True), (106, False)]:
            floor = floor_in("open", sell("s1", 105, 3))
            floor.lay("limit", buy("z1", 90, 2), trigger)
            facts = [("trade", "b1", "s1", 105, 1)] + ([("wake", "z1"), ("rest", "z1", 2)] if woken else [])
            with self.subTest(trigger=trigger):
                self.assertEqual(floor.enter("now", buy("b1", 105, 1)), facts)
                self.assertEqual(floor.look()[4], [] if woken else [("limit", buy("z1", 90, 2), trigger)])

    def test_behind_a_meeting_a_seller_just_so_and_one_off(self):
        for trigger, woken in [(96, True), (95, True), (94, False)]:
            floor = floor_in("open", buy("b1", 95, 3))
            floor.lay("limit", sell("z1", 110, 2), trigger)
            facts = [("trade", "b1", "s1", 95, 1)] + ([("wake", "z1"), ("rest", "z1", 2)] if woken else [])
            with self.subTest(trigger=trigger):
                self.assertEqual(floor.enter("now", sell("s1", 95, 1)), facts)
                self.assertEqual(floor.look()[4], [] if woken else [("limit", sell("z1", 110, 2), trigger)])

    def test_the_limit_is_not_what_wakes(self):
        floor = floor_in("open", sell("s1", 105, 3))
        floor.lay("limit", buy("z1", 105, 2), 106)
        self.assertEqual(floor.enter("now", buy("b1", 105, 1)), [("trade", "b1", "s1", 105, 1)])

    def test_behind_what_rests_of_the_meeting(self):
        floor = floor_in("open", sell("s1", 105, 3))
        floor.lay("limit", sell("z1", 104, 1), 99)
        floor.lay("now", sell("z2", 104, 3), 98)
        floor.lay("now", buy("z3", 104, 3), 105)
        self.assertEqual(floor.enter("limit", buy("b1", 105, 4)),
                         [("trade", "b1", "s1", 105, 3), ("rest", "b1", 1), ("wake", "z3"), ("gone", "z3", 3)])

    def test_behind_a_call(self):
        floor = floor_in("call", buy("b1", 105, 3), sell("s1", 105, 3), sell("s2", 106, 1))
        floor.lay("limit", buy("z1", 106, 2), 105)
        floor.lay("now", buy("z2", 106, 2), 107)
        self.assertEqual(floor.turn("open"),
                         [("trade", "b1", "s1", 105, 3), ("phase", "open"), ("wake", "z1"),
                          ("trade", "z1", "s2", 106, 1), ("rest", "z1", 1)])
        self.assert_look(floor, "open", 106, [buy("z1", 106, 1)], [], [("now", buy("z2", 106, 2), 107)])

    def test_behind_an_opening_without_a_price(self):
        floor = floor_in("call")
        floor.lay("limit", sell("z1", 106, 2), 100)
        self.assertEqual(floor.turn("open"), [("phase", "open"), ("wake", "z1"), ("rest", "z1", 2)])

    def test_the_one_laid_asleep_first_wakes_foremost(self):
        floor = floor_in("open", sell("s1", 105, 1))
        # Neither the trigger, nor the limit, nor the name decides.
        for name, price, trigger in [("z5", 90, 105), ("z1", 99, 101), ("z3", 80, 104), ("z2", 99, 106)]:
            floor.lay("limit", buy(name, price, 1), trigger)
        self.assertEqual(floor.enter("now", buy("b1", 105, 1)),
                         [("trade", "b1", "s1", 105, 1), ("wake", "z5"), ("rest", "z5", 1), ("wake", "z1"),
                          ("rest", "z1", 1), ("wake", "z3"), ("rest", "z3", 1)])
        self.assertEqual([order[0] for word, order, trigger in floor.look()[4]], ["z2"])

    def test_it_is_looked_anew_behind_each_one(self):
        # z2's trade meets the trigger of z1, which was laid asleep ahead of z3: so z1 goes ahead of z3.
        floor = floor_in("open", sell("s1", 103, 1), sell("s2", 105, 1), sell("s3", 120, 1))
        floor.lay("limit", buy("z1", 90, 1), 105)
        floor.lay("now", buy("z2", 105, 1), 103)
        floor.lay("limit", buy("z3", 91, 1), 102)
        self.assertEqual(floor.enter("now", buy("b1", 103, 1)),
                         [("trade", "b1", "s1", 103, 1), ("wake", "z2"), ("trade", "z2", "s2", 105, 1),
                          ("wake", "z1"), ("rest", "z1", 1), ("wake", "z3"), ("rest", "z3", 1)])

    def test_a_trigger_may_be_met_no_more_when_its_turn_comes(self):
        # z1's trade puts the last price back below z2's trigger.
        floor = floor_in("open", sell("s1", 105, 1), buy("b2", 99, 1))
        floor.lay("now", sell("z0", 99, 1), 90)
        floor.lay("now", sell("z1", 99, 1), 99)
        floor.lay("limit", buy("z2", 90, 1), 105)
        self.assertEqual(floor.lay("now", sell("z3", 99, 1), 100),
                         [("sleep", "z3", 100), ("wake", "z3"), ("trade", "b2", "z3", 99, 1), ("wake", "z1"),
                          ("gone", "z1", 1)])
        floor.turn("call")
        floor.lay("limit", sell("z4", 98, 1), 104)
        floor.lay("limit", buy("z5", 90, 1), 101)
        floor.enter("limit", buy("b3", 98, 1))
        floor.enter("limit", buy("b4", 104, 1))
        floor.enter("limit", sell("s4", 104, 1))
        self.assertEqual(floor.turn("open"),
                         [("trade", "b4", "s4", 104, 1), ("phase", "open"), ("wake", "z4"),
                          ("trade", "b3", "z4", 98, 1)])
        self.assertEqual([order[0] for word, order, trigger in floor.look()[4]], ["z0", "z2", "z5"])

    def test_each_meets_with_the_last_price_as_it_is_then(self):
        orders = [sell("s1", 108, 1), sell("s2", 116, 1), sell("s3", 124, 1)]
        floor = floor_in("open", *orders)
        floor.lay("now", buy("z1", 116, 1), 108)
        floor.lay("now", buy("z2", 124, 1), 116)
        # From 100 neither 116 nor 124 is within the leap of ten.
        self.assertEqual(floor.enter("now", buy("b1", 108, 1)),
                         [("trade", "b1", "s1", 108, 1), ("wake", "z1"), ("trade", "z1", "s2", 116, 1),
                          ("wake", "z2"), ("trade", "z2", "s3", 124, 1)])
        self.assert_look(floor, "open", 124, [], [])

    def test_a_wake_that_is_halted_ends_the_waking(self):
        floor = floor_in("open", sell("s1", 105, 1), sell("s2", 116, 1))
        floor.lay("limit", buy("z1", 116, 2), 105)
        floor.lay("limit", buy("z2", 90, 1), 105)
        self.assertEqual(floor.enter("now", buy("b1", 105, 1)),
                         [("trade", "b1", "s1", 105, 1), ("wake", "z1"), ("rest", "z1", 2), ("phase", "call")])
        self.assert_look(floor, "call", 105, [buy("z1", 116, 2)], [sell("s2", 116, 1)],
                         [("limit", buy("z2", 90, 1), 105)])
        self.assertEqual(floor.turn("open"),
                         [("trade", "z1", "s2", 116, 1), ("phase", "open"), ("wake", "z2"), ("rest", "z2", 1)])

    def test_a_meeting_that_is_halted_wakes_nobody(self):
        floor = floor_in("open", sell("s1", 105, 1), sell("s2", 116, 1))
        floor.lay("limit", buy("z1", 90, 2), 105)
        self.assertEqual(floor.enter("now", buy("b1", 116, 2)),
                         [("trade", "b1", "s1", 105, 1), ("gone", "b1", 1), ("phase", "call")])
        self.assertEqual(len(floor.look()[4]), 1)

    def test_nobody_wakes_while_the_floor_is_not_open(self):
        floor = floor_in("call")
        floor.lay("limit", buy("z1", 90, 2), 100)
        self.assertEqual(floor.enter("limit", buy("b1", 90)), [("rest", "b1", 5)])
        self.assertEqual(floor.lay("now", buy("z2", 90, 2), 100), [("sleep", "z2", 100)])
        self.assertEqual(floor.turn("halt"), [("phase", "halt")])
        self.assertEqual(floor.turn("call"), [("phase", "call")])
        self.assertEqual(floor.turn("open"),
                         [("phase", "open"), ("wake", "z1"), ("rest", "z1", 2), ("wake", "z2"), ("gone", "z2", 2)])

    def test_take_out_and_lessen_wake_nobody(self):
        for phase in ["open", "call", "halt"]:
            floor = floor_in("call", sell("s1", 101), buy("b1", 99))
            floor.lay("limit", buy("z1", 90, 2), 101 if phase == "open" else 100)
            if phase != "call":
                floor.turn(phase)
            self.assertEqual(floor.lessen("s1", 4), [("less", "s1", 4)])
            self.assertEqual(floor.lessen("z1", 1), [("less", "z1", 1)])
            self.assertEqual(floor.take_out("s1"), [("out", "s1", 4)])
            self.assertEqual(floor.take_out("b1"), [("out", "b1", 5)])
            self.assertEqual([order[0] for word, order, trigger in floor.look()[4]], ["z1"])

    def test_a_lessened_one_wakes_with_what_it_wants_then(self):
        floor = floor_in("open", sell("s1", 105, 16))
        floor.lay("limit", buy("z1", 104, 16, 4), 105)
        floor.lessen("z1", 5)
        self.assertEqual(floor.enter("now", buy("b1", 105, 1)),
                         [("trade", "b1", "s1", 105, 1), ("wake", "z1"), ("rest", "z1", 5)])
        self.assertEqual(floor.find("z1"), ("z1", "ann", "buy", 104, 5, 4, 4))

    def test_one_that_is_taken_out_does_not_wake(self):
        floor = floor_in("open", sell("s1", 105, 16))
        floor.lay("limit", buy("z1", 104), 105)
        floor.lay("limit", buy("z2", 103), 105)
        floor.take_out("z1")
        self.assertEqual(floor.enter("now", buy("b1", 105, 1)),
                         [("trade", "b1", "s1", 105, 1), ("wake", "z2"), ("rest", "z2", 5)])

    def test_nobody_stands_across_behind_the_waking(self):
        floor = floor_in("open", sell("s1", 105, 1), sell("s2", 107, 3))
        floor.lay("limit", buy("z1", 108, 5), 105)
        floor.lay("limit", buy("z2", 109, 1), 107)
        floor.lay("limit", sell("z3", 101, 9), 99)
        floor.enter("now", buy("b1", 105, 1))
        phase, last, buys, sells, asleep = floor.look()
        self.assertEqual((phase, buys, across(buys, sells)), ("open", [buy("z2", 109, 1), buy("z1", 108, 2)], []))


if __name__ == "__main__":
    unittest.main()
