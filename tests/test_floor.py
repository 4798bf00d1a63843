"""Points 2, 5, 9, 12, 19, 20, 22 and 23: a floor, its phases, and the orders that come in and go out."""

import unittest

from bellbook.errors import BadKind, BadNumber, BadPhase, NoOrder, NotNow, Twice
from bellbook.floor import Floor
from bellbook.orders import lessened
from tests.helper import FloorCase, across, buy, floor_in, line_of, names, sell

PHASES = ["open", "call", "halt"]
KINDS = ["limit", "now", "whole", "quiet"]
NO_KINDS = ["", "Limit", "limit ", "stop", "open", "buy"]


class NewFloorTest(FloorCase):
    def test_look(self):
        self.assert_look(Floor(100, 10), "call", 100, [], [])
        self.assert_look(Floor(1, 0), "call", 1, [], [])
        self.assert_look(Floor(mark=10 ** 9, leap=10 ** 9), "call", 10 ** 9, [], [])

    def test_two_floors_keep_apart(self):
        one, other = Floor(100, 10), Floor(100, 10)
        one.enter("limit", buy("b1", 100))
        one.lay("now", buy("b2", 100), 105)
        one.turn("open")
        self.assert_look(other, "call", 100, [], [])


class EnterInCallTest(FloorCase):
    def test_each_joins_its_line_and_nothing_meets(self):
        floor = Floor(100, 10)
        self.assertEqual(floor.enter("limit", buy("b1", 100, 5)), [("rest", "b1", 5)])
        self.assertEqual(floor.enter("limit", sell("s1", 90, 16, 4)), [("rest", "s1", 16)])
        self.assertEqual(floor.enter(word="limit", order=buy("b2", 500, 2)), [("rest", "b2", 2)])
        self.assertEqual(floor.enter("limit", buy("b3", 100, 1)), [("rest", "b3", 1)])
        self.assertEqual(floor.enter("limit", sell("s2", 10, 3, who="ann")), [("rest", "s2", 3)])
        self.assert_look(floor, "call", 100, [buy("b2", 500, 2), buy("b1", 100, 5), buy("b3", 100, 1)],
                         [sell("s2", 10, 3, who="ann"), sell("s1", 90, 16, 4)])

    def test_the_other_kinds_are_not_taken(self):
        floor = floor_in("call", buy("b1", 100))
        for word in ["now", "whole", "quiet"]:
            self.assert_refused(NotNow, floor, "enter", word, buy("x", 100))
            self.assert_refused(NotNow, floor, "enter", word, buy("b1", 100))

    def test_no_kind_and_a_name_that_is_there(self):
        floor = floor_in("call", buy("b1", 100), sell("s1", 200))
        floor.lay("limit", buy("z1", 100), 150)
        for word in NO_KINDS:
            self.assert_refused(BadKind, floor, "enter", word, buy("x", 100))
            self.assert_refused(BadKind, floor, "enter", word, buy("b1", 100))
        for name in ["b1", "s1", "z1"]:
            self.assert_refused(Twice, floor, "enter", "limit", buy(name, 100))
            self.assert_refused(Twice, floor, "enter", "limit", sell(name, 200, who="eve"))


class EnterInHaltTest(FloorCase):
    def test_no_order_comes_in(self):
        for through in ["call", "open"]:
            floor = floor_in(through, buy("b1", 100))
            floor.turn("halt")
            for word in KINDS:
                self.assert_refused(NotNow, floor, "enter", word, buy("x", 100))
                self.assert_refused(NotNow, floor, "enter", word, buy("b1", 100))
            for word in NO_KINDS:
                self.assert_refused(BadKind, floor, "enter", word, buy("x", 100))
                self.assert_refused(BadKind, floor, "enter", word, buy("b1", 100))
            self.assert_look(floor, "halt", 100, [buy("b1", 100)], [])


class EnterInOpenTest(FloorCase):
    def test_limit_meets_and_rests(self):
        floor = floor_in("open", sell("s1", 101, 3), sell("s2", 102, 4), sell("s3", 103, 9))
        self.assertEqual(floor.enter("limit", buy("b1", 102, 9)),
                         [("trade", "b1", "s1", 101, 3), ("trade", "b1", "s2", 102, 4), ("rest", "b1", 2)])
        self.assert_look(floor, "open", 102, [buy("b1", 102, 2)], [sell("s3", 103, 9)])

    def test_a_seller_is_told_behind_the_buyer(self):
        floor = floor_in("open", buy("b1", 99, 3), buy("b2", 98, 4))
        self.assertEqual(floor.enter("limit", sell("s1", 98, 9)),
                         [("trade", "b1", "s1", 99, 3), ("trade", "b2", "s1", 98, 4), ("rest", "s1", 2)])
        self.assert_look(floor, "open", 98, [], [sell("s1", 98, 2)])

    def test_limit_wholly_traded(self):
        floor = floor_in("open", sell("s1", 101, 3))
        self.assertEqual(floor.enter("limit", buy("b1", 105, 3)), [("trade", "b1", "s1", 101, 3)])
        self.assert_look(floor, "open", 101, [], [])

    def test_limit_that_meets_nobody(self):
        floor = floor_in("open", sell("s1", 101, 3))
        self.assertEqual(floor.enter("limit", buy("b1", 100, 16, 4)), [("rest", "b1", 16)])
        self.assert_look(floor, "open", 100, [buy("b1", 100, 16, 4)], [sell("s1", 101, 3)])

    def test_what_rests_is_made_anew_behind_those_of_its_price(self):
        floor = floor_in("open", buy("b0", 101, 1), sell("s1", 102, 5))
        floor.enter("limit", buy("b1", 102, 16, 4))
        self.assert_look(floor, "open", 102, [("b1", "ann", "buy", 102, 11, 4, 4), buy("b0", 101, 1)], [])
        floor.enter("limit", buy("b2", 101, 1))
        self.assertEqual(names(floor.look()[2]), ["b1", "b0", "b2"])

    def test_the_one_in_line_is_served(self):
        floor = floor_in("open", sell("s1", 101, 16, 4), sell("s2", 101, 3))
        self.assertEqual(floor.enter("now", buy("b1", 101, 8)),
                         [("trade", "b1", "s1", 101, 4), ("trade", "b1", "s2", 101, 3), ("trade", "b1", "s1", 101, 1)])
        self.assert_look(floor, "open", 101, [], [("s1", "bob", "sell", 101, 11, 3, 4)])

    def test_an_own_order_is_shunned(self):
        floor = floor_in("open", sell("s1", 100, 16, 4, who="ann"), sell("s2", 101, 3))
        self.assertEqual(floor.enter("limit", buy("b1", 101, 4, who="ann")),
                         [("shun", "s1", 16), ("trade", "b1", "s2", 101, 3), ("rest", "b1", 1)])
        self.assert_look(floor, "open", 101, [buy("b1", 101, 1)], [])

    def test_now(self):
        floor = floor_in("open", sell("s1", 101, 3))
        self.assertEqual(floor.enter("now", buy("b1", 102, 5)), [("trade", "b1", "s1", 101, 3), ("gone", "b1", 2)])
        self.assert_look(floor, "open", 101, [], [])
        self.assertEqual(floor.enter("now", buy("b1", 102, 5)), [("gone", "b1", 5)])
        self.assert_look(floor, "open", 101, [], [])

    def test_whole(self):
        floor = floor_in("open", sell("s0", 100, 9, who="ann"), sell("s1", 101, 3), sell("s2", 111, 3))
        for amount in [4, 6]:
            self.assertEqual(floor.enter("whole", buy("b1", 111, amount)), [("gone", "b1", amount)])
            self.assert_look(floor, "open", 100, [],
                             [sell("s0", 100, 9, who="ann"), sell("s1", 101, 3), sell("s2", 111, 3)])
        self.assertEqual(floor.enter("whole", buy("b1", 111, 3)), [("shun", "s0", 9), ("trade", "b1", "s1", 101, 3)])
        self.assert_look(floor, "open", 101, [], [sell("s2", 111, 3)])

    def test_quiet(self):
        floor = floor_in("open", sell("s1", 101, 3))
        self.assertEqual(floor.enter("quiet", buy("b1", 101, 5)), [("gone", "b1", 5)])
        self.assertEqual(floor.enter("quiet", buy("b1", 300, 5)), [("gone", "b1", 5)])
        self.assertEqual(floor.enter("quiet", buy("b1", 100, 16, 4)), [("rest", "b1", 16)])
        self.assertEqual(floor.enter("quiet", sell("s2", 100, 5)), [("gone", "s2", 5)])
        self.assert_look(floor, "open", 100, [buy("b1", 100, 16, 4)], [sell("s1", 101, 3)])

    def test_refusals(self):
        floor = floor_in("open", buy("b1", 100), sell("s1", 200))
        floor.lay("now", sell("z1", 100), 50)
        for word in NO_KINDS:
            self.assert_refused(BadKind, floor, "enter", word, buy("x", 100))
            self.assert_refused(BadKind, floor, "enter", word, buy("b1", 100))
        for word in KINDS:
            for name in ["b1", "s1", "z1"]:
                self.assert_refused(Twice, floor, "enter", word, buy(name, 100))
                self.assert_refused(Twice, floor, "enter", word, sell(name, 90, who="eve"))

    def test_a_name_may_come_again_when_its_order_is_gone(self):
        floor = floor_in("open", buy("b1", 100, 5))
        floor.enter("now", sell("s1", 100, 5))
        floor.enter("limit", sell("b1", 100, 2))
        floor.take_out("b1")
        self.assertEqual(floor.enter("limit", buy("b1", 90, 1)), [("rest", "b1", 1)])

    def test_facts_are_a_list_of_tuples(self):
        floor = floor_in("open", sell("s1", 101, 3))
        told = floor.enter("limit", buy("b1", 102, 5))
        self.assertEqual([type(told)] + [type(fact) for fact in told], [list, tuple, tuple])
        told.append("more")
        self.assert_look(floor, "open", 101, [buy("b1", 102, 2)], [])


class HaltedTest(FloorCase):
    def test_limit_rests_ahead_of_the_phase(self):
        floor = floor_in("open", sell("s1", 110, 3), sell("s2", 111, 4))
        self.assertEqual(floor.enter("limit", buy("b1", 115, 9)),
                         [("trade", "b1", "s1", 110, 3), ("rest", "b1", 6), ("phase", "call")])
        self.assert_look(floor, "call", 110, [buy("b1", 115, 6)], [sell("s2", 111, 4)])

    def test_now_is_gone_ahead_of_the_phase(self):
        floor = floor_in("open", sell("s1", 110, 3), sell("s2", 111, 4))
        self.assertEqual(floor.enter("now", buy("b1", 115, 9)),
                         [("trade", "b1", "s1", 110, 3), ("gone", "b1", 6), ("phase", "call")])
        self.assert_look(floor, "call", 110, [], [sell("s2", 111, 4)])

    def test_a_seller(self):
        floor = floor_in("open", buy("b1", 90, 3), buy("b2", 89, 4))
        self.assertEqual(floor.enter("limit", sell("s1", 80, 9)),
                         [("trade", "b1", "s1", 90, 3), ("rest", "s1", 6), ("phase", "call")])
        self.assert_look(floor, "call", 90, [buy("b2", 89, 4)], [sell("s1", 80, 6)])

    def test_nothing_traded_leaves_the_last_price(self):
        floor = floor_in("open", sell("s0", 105, 2, who="ann"), sell("s1", 111, 3))
        self.assertEqual(floor.enter("limit", buy("b1", 115, 9)),
                         [("shun", "s0", 2), ("rest", "b1", 9), ("phase", "call")])
        self.assert_look(floor, "call", 100, [buy("b1", 115, 9)], [sell("s1", 111, 3)])

    def test_the_leap_goes_by_the_last_price_ahead_of_the_meeting(self):
        floor = floor_in("open", sell("s1", 105, 1), sell("s2", 110, 1), sell("s3", 115, 1), sell("s4", 120, 1))
        self.assertEqual(floor.enter("limit", buy("b1", 120, 3))[-1], ("phase", "call"))
        self.assertEqual(names(floor.look()[3]), ["s3", "s4"])
        floor = floor_in("open", sell("s1", 105, 1), sell("s2", 110, 1), sell("s3", 115, 1), sell("s4", 120, 1))
        floor.enter("limit", buy("b1", 105, 1))
        self.assertEqual(floor.enter("limit", buy("b2", 120, 2)),
                         [("trade", "b2", "s2", 110, 1), ("trade", "b2", "s3", 115, 1)])
        self.assert_look(floor, "open", 115, [], [sell("s4", 120, 1)])

    def test_an_order_that_wants_nothing_more_is_never_halted(self):
        floor = floor_in("open", sell("s1", 110, 3), sell("s2", 111, 4))
        self.assertEqual(floor.enter("limit", buy("b1", 115, 3)), [("trade", "b1", "s1", 110, 3)])
        self.assertEqual(floor.look()[0], "open")

    def test_a_leap_of_nought(self):
        floor = floor_in("open", sell("s1", 100, 3), sell("s2", 101, 4), leap=0)
        self.assertEqual(floor.enter("now", buy("b1", 100, 3)), [("trade", "b1", "s1", 100, 3)])
        self.assertEqual(floor.enter("now", buy("b2", 101, 3)), [("gone", "b2", 3), ("phase", "call")])
        self.assert_look(floor, "call", 100, [], [sell("s2", 101, 4)])

    def test_behind_it_the_floor_is_in_the_phase_call(self):
        floor = floor_in("open", sell("s1", 120, 3))
        floor.enter("limit", buy("b1", 120, 4))
        self.assert_refused(NotNow, floor, "enter", "now", buy("b2", 120))
        self.assert_refused(NotNow, floor, "turn", "call")
        self.assertEqual(floor.enter("limit", buy("b2", 121, 1)), [("rest", "b2", 1)])
        self.assertEqual(floor.turn("open"), [("trade", "b2", "s1", 120, 1), ("trade", "b1", "s1", 120, 2),
                                              ("phase", "open")])
        self.assert_look(floor, "open", 120, [buy("b1", 120, 2)], [])

    def test_whole_and_quiet_halt_nothing(self):
        floor = floor_in("open", sell("s1", 120, 3))
        for word in ["whole", "quiet"]:
            self.assertEqual(floor.enter(word, buy("b1", 120, 3)), [("gone", "b1", 3)])
            self.assert_look(floor, "open", 100, [], [sell("s1", 120, 3)])


class LastPriceTest(FloorCase):
    def test_behind_a_meeting_it_is_that_of_the_last_trade(self):
        floor = floor_in("open", sell("s1", 101, 1), sell("s2", 103, 1), sell("s3", 105, 5, who="ann"))
        floor.enter("now", buy("b1", 105, 9))
        self.assert_look(floor, "open", 103, [], [])

    def test_without_a_trade_it_stays(self):
        floor = floor_in("open", sell("s1", 101, 1, who="ann"), sell("s2", 105, 1))
        for word, order in [("limit", buy("b1", 99)), ("now", buy("b2", 101, 1)), ("whole", buy("b3", 105, 2)),
                            ("quiet", buy("b4", 105)), ("quiet", buy("b5", 98))]:
            floor.enter(word, order)
            self.assertEqual(floor.look()[1], 100)

    def test_behind_a_call(self):
        floor = floor_in("open", buy("b1", 120, 2), sell("s1", 118, 2))
        self.assert_look(floor, "open", 118, [], [])

    def test_behind_a_call_without_a_price(self):
        for orders in [[], [buy("b1", 120)], [sell("s1", 80)], [buy("b1", 80), sell("s1", 120)]]:
            self.assertEqual(floor_in("open", *orders).look()[1], 100)

    def test_other_deeds_leave_it(self):
        floor = floor_in("open", buy("b1", 100, 5))
        floor.enter("now", sell("s1", 100, 1))
        for word in ["call", "halt", "call", "open"]:
            floor.turn(word)
            floor.lessen("b1", 3)
            self.assertEqual(floor.look()[1], 100)


class TurnTest(FloorCase):
    LEADS = {"open": ["call", "halt"], "call": ["open", "halt"], "halt": ["call"]}

    def test_each_way(self):
        for phase in PHASES:
            for word in self.LEADS[phase]:
                with self.subTest(phase=phase, word=word):
                    floor = floor_in(phase, buy("b1", 99), sell("s1", 101))
                    self.assertEqual(floor.turn(word), [("phase", word)])
                    self.assert_look(floor, word, 100, [buy("b1", 99)], [sell("s1", 101)])
        self.assertEqual(Floor(100, 10).turn(word="halt"), [("phase", "halt")])

    def test_not_now(self):
        for phase in PHASES:
            for word in PHASES:
                if word not in self.LEADS[phase]:
                    self.assert_refused(NotNow, floor_in(phase, buy("b1", 99)), "turn", word)

    def test_bad_phase(self):
        for phase in PHASES:
            for word in ["", "Open", "open ", "halted", "limit"]:
                self.assert_refused(BadPhase, floor_in(phase, buy("b1", 99)), "turn", word)

    def test_the_call_is_held_ahead_of_the_phase(self):
        floor = floor_in("call", buy("b1", 105, 3), buy("b2", 104, 16, 4), sell("s1", 95, 5), sell("s2", 110, 2))
        self.assertEqual(floor.turn("open"), [("trade", "b1", "s1", 104, 3), ("trade", "b2", "s1", 104, 2),
                                              ("phase", "open")])
        self.assert_look(floor, "open", 104, [("b2", "ann", "buy", 104, 14, 4, 4)], [sell("s2", 110, 2)])

    def test_the_call_is_nearest_to_the_last_price(self):
        for mark, price in [(1, 90), (90, 90), (99, 90), (100, 90), (101, 110), (500, 110)]:
            floor = floor_in("call", buy("b1", 110, 3), sell("s1", 90, 3), mark=mark)
            self.assertEqual(floor.turn("open"), [("trade", "b1", "s1", price, 3), ("phase", "open")])
            self.assert_look(floor, "open", price, [], [])

    def test_the_last_price_and_not_the_first_mark(self):
        floor = floor_in("open", sell("s0", 109, 1))
        floor.enter("now", buy("b0", 109, 1))
        floor.turn("call")
        floor.enter("limit", buy("b1", 110, 3))
        floor.enter("limit", sell("s1", 90, 3))
        self.assertEqual(floor.turn("open"), [("trade", "b1", "s1", 110, 3), ("phase", "open")])

    def test_calls_know_no_leap(self):
        floor = floor_in("call", buy("b1", 900, 3), sell("s1", 800, 3), leap=0)
        self.assertEqual(floor.turn("open"), [("trade", "b1", "s1", 800, 3), ("phase", "open")])
        self.assert_look(floor, "open", 800, [], [])

    def test_a_house_meets_itself_in_a_call(self):
        floor = floor_in("call", buy("b1", 100, 3, who="ann"), sell("s1", 100, 3, who="ann"))
        self.assertEqual(floor.turn("open"), [("trade", "b1", "s1", 100, 3), ("phase", "open")])

    def test_no_call_is_held_by_the_other_ways(self):
        orders = [buy("b1", 105, 3), sell("s1", 95, 5)]
        floor = floor_in("call", *orders)
        for word in ["halt", "call", "halt", "call"]:
            self.assertEqual(floor.turn(word), [("phase", word)])
            self.assert_look(floor, word, 100, [orders[0]], [orders[1]])
        self.assertEqual(floor.turn("open"), [("trade", "b1", "s1", 95, 3), ("phase", "open")])

    def test_nobody_stands_across_behind_the_opening(self):
        floor = floor_in("open", buy("b1", 105, 3), buy("b2", 100, 4), sell("s1", 95, 2), sell("s2", 100, 3, who="ann"))
        self.assertEqual(across(floor.look()[2], floor.look()[3]), [])


class TakeOutTest(FloorCase):
    def test_in_every_phase(self):
        for phase in PHASES:
            floor = floor_in("call", buy("b1", 99, 16, 4), buy("b2", 98), sell("s1", 101), sell("s2", 102, 2))
            floor.lay("now", buy("z1", 100, 7), 105)
            floor.lay("limit", sell("z2", 100, 8), 95)
            if phase != "call":
                floor.turn(phase)
            with self.subTest(phase=phase):
                self.assertEqual(floor.take_out("b1"), [("out", "b1", 16)])
                self.assertEqual(floor.take_out(name="s2"), [("out", "s2", 2)])
                self.assert_look(floor, phase, 100, [buy("b2", 98)], [sell("s1", 101)],
                                 [("now", buy("z1", 100, 7), 105), ("limit", sell("z2", 100, 8), 95)])
                self.assertEqual(floor.take_out("z1"), [("out", "z1", 7)])
                self.assert_look(floor, phase, 100, [buy("b2", 98)], [sell("s1", 101)],
                                 [("limit", sell("z2", 100, 8), 95)])
                for name in ["b1", "s2", "z1", "b", "b22", ""]:
                    self.assert_refused(NoOrder, floor, "take_out", name)
                for name in ["z2", "b2", "s1"]:
                    floor.take_out(name)
                self.assert_look(floor, phase, 100, [], [])

    def test_it_tells_what_is_left_then(self):
        floor = floor_in("open", sell("s1", 100, 16, 4))
        floor.enter("now", buy("b1", 100, 3))
        self.assertEqual(floor.take_out("s1"), [("out", "s1", 13)])

    def test_no_order_in_an_empty_floor(self):
        for phase in PHASES:
            self.assert_refused(NoOrder, floor_in(phase), "take_out", "b1")


class LessenTest(FloorCase):
    def test_in_every_phase(self):
        for phase in PHASES:
            orders = [buy("b1", 99, 16, 4), buy("b2", 99), sell("s1", 101), sell("s2", 101, 2)]
            floor = floor_in("call", *orders)
            floor.lay("now", buy("z1", 100, 7), 105)
            floor.lay("limit", sell("z2", 100, 8, 2), 95)
            if phase != "call":
                floor.turn(phase)
            with self.subTest(phase=phase):
                self.assertEqual(floor.lessen("b1", 3), [("less", "b1", 3)])
                self.assertEqual(floor.lessen("s1", 5), [("less", "s1", 5)])
                self.assertEqual(floor.lessen(name="s2", left=1), [("less", "s2", 1)])
                self.assertEqual(floor.lessen("z1", 7), [("less", "z1", 7)])
                self.assertEqual(floor.lessen("z2", 1), [("less", "z2", 1)])
                self.assert_look(floor, phase, 100, [("b1", "ann", "buy", 99, 3, 3, 4), orders[1]],
                                 [orders[2], sell("s2", 101, 1)],
                                 [("now", buy("z1", 100, 7), 105),
                                  ("limit", ("z2", "bob", "sell", 100, 1, 1, 2), 95)])
                for name, left in [("b1", 4), ("b1", 0), ("b1", -1), ("s1", 6), ("z1", 8), ("z1", 0), ("z2", 2)]:
                    self.assert_refused(BadNumber, floor, "lessen", name, left)
                for name, left in [("x", 1), ("x", 0), ("", 1)]:
                    self.assert_refused(NoOrder, floor, "lessen", name, left)

    def test_it_keeps_what_is_shown(self):
        floor = floor_in("open", sell("s1", 100, 16, 4))
        floor.enter("now", buy("b1", 100, 3))
        floor.lessen("s1", 12)
        self.assertEqual(floor.find("s1"), ("s1", "bob", "sell", 100, 12, 1, 4))

    def test_of_several_asleep_one_is_lessened(self):
        floor = floor_in("call")
        for name in ["z1", "z2", "z3"]:
            floor.lay("limit", buy(name, 100, 9), 105)
        floor.lessen("z2", 4)
        self.assertEqual([order[4] for word, order, trigger in floor.look()[4]], [9, 4, 9])


class FindTest(FloorCase):
    def test_in_line_and_asleep_in_every_phase(self):
        for phase in PHASES:
            floor = floor_in("call", buy("b1", 99, 16, 4), buy("b2", 98), sell("s1", 101))
            floor.lay("now", buy("z1", 100, 7), 105)
            if phase != "call":
                floor.turn(phase)
            for order in [buy("b1", 99, 16, 4), buy("b2", 98), sell("s1", 101), buy("z1", 100, 7)]:
                self.assertEqual(floor.find(order[0]), order)
                self.assertEqual(floor.find(name=order[0]), order)
            for name in ["", "b", "b3", "z2"]:
                self.assert_refused(NoOrder, floor, "find", name)

    def test_as_it_stands(self):
        floor = floor_in("open", sell("s1", 100, 16, 4))
        floor.enter("now", buy("b1", 100, 3))
        self.assertEqual(floor.find("s1"), ("s1", "bob", "sell", 100, 13, 1, 4))
        self.assert_refused(NoOrder, floor, "find", "b1")
        floor.lay("now", sell("z1", 100, 16, 4), 90)
        floor.lessen("z1", 3)
        self.assertEqual(floor.find("z1"), lessened(sell("z1", 100, 16, 4), 3))
        floor.take_out("z1")
        self.assert_refused(NoOrder, floor, "find", "z1")


class LookTest(FloorCase):
    def test_kinds(self):
        floor = floor_in("call", buy("b1", 99))
        floor.lay("now", buy("z1", 100, 7), 105)
        told = floor.look()
        self.assertEqual([type(told)] + [type(part) for part in told], [tuple, str, int, list, list, list])
        self.assertEqual([type(part) for part in told[4]], [tuple])

    def test_those_asleep_as_they_were_laid(self):
        floor = Floor(100, 10)
        laid = [("limit", buy("z3", 90), 130), ("now", sell("z1", 90), 70), ("limit", buy("z2", 95), 120)]
        for word, order, trigger in laid:
            floor.lay(word, order, trigger)
        self.assert_look(floor, "call", 100, [], [], laid)

    def test_what_is_done_with_it_changes_nothing(self):
        floor = floor_in("open", buy("b1", 99), sell("s1", 101))
        floor.lay("now", buy("z1", 100, 7), 105)
        expected = ("open", 100, [buy("b1", 99)], [sell("s1", 101)], [("now", buy("z1", 100, 7), 105)])
        for part in floor.look()[2:]:
            part.append("more")
        self.assertEqual(floor.look(), expected)
        for part in floor.look()[2:]:
            part.clear()
        self.assertEqual(floor.look(), expected)
        floor.open_of("ann")[0].append("more")
        self.assertEqual(floor.open_of("ann"), ([(99, 5), (100, 7)], []))

    def test_it_stays_whatever_is_done_later(self):
        floor = floor_in("open", buy("b1", 99), sell("s1", 101))
        floor.lay("now", buy("z1", 100, 7), 105)
        told = floor.look()
        expected = (told[0], told[1], list(told[2]), list(told[3]), list(told[4]))
        floor.lay("limit", buy("z2", 100, 7), 105)
        floor.enter("limit", buy("b2", 101, 9))
        floor.lessen("z1", 1)
        floor.take_out("b1")
        floor.turn("halt")
        self.assertEqual(told, expected)

    def test_no_two_told_lists_are_one(self):
        floor = Floor(100, 10)
        lists = list(floor.look()[2:]) + list(floor.look()[2:]) + list(floor.open_of("ann"))
        lists += [floor.enter("limit", buy("b1", 99)), floor.turn("open")]
        self.assertEqual(len(set(id(one) for one in lists)), len(lists))


class OpenOfTest(FloorCase):
    def test_in_line_and_behind_them_asleep(self):
        floor = Floor(100, 10)
        floor.lay("now", buy("z1", 97, 7), 105)
        floor.lay("limit", sell("z2", 130, 8), 95)
        floor.lay("limit", buy("z3", 120, 1), 110)
        floor.lay("limit", buy("z4", 99, 2, who="bob"), 110)
        for order in [buy("b1", 98, 16, 4), buy("b2", 99, 3), buy("b3", 98, 2), buy("b4", 99, 6, who="bob"),
                      sell("s1", 140, 4, who="ann"), sell("s2", 139, 9, who="ann"), sell("s3", 150, 5, who="bob")]:
            floor.enter("limit", order)
        anns = ([(99, 3), (98, 16), (98, 2), (97, 7), (120, 1)], [(139, 9), (140, 4)])
        self.assertEqual(floor.open_of("ann"), anns)
        self.assertEqual(floor.open_of(who="bob"), ([(99, 6), (99, 2)], [(150, 5), (130, 8)]))
        self.assertEqual(floor.open_of("eve"), ([], []))
        told = floor.open_of("ann")
        self.assertEqual([type(told), type(told[0]), type(told[1]), type(told[0][0])], [tuple, list, list, tuple])
        for phase in ["open", "call", "halt"]:
            floor.turn(phase)
            self.assertEqual(floor.open_of("ann"), anns)

    def test_what_is_left(self):
        floor = floor_in("open", sell("s1", 100, 16, 4))
        floor.enter("now", buy("b1", 100, 3))
        self.assertEqual(floor.open_of("bob"), ([], [(100, 13)]))
        floor.lay("now", sell("z1", 90, 7), 95)
        floor.lessen("z1", 2)
        self.assertEqual(floor.open_of("bob"), ([], [(100, 13), (90, 2)]))
        floor.take_out("s1")
        floor.take_out("z1")
        self.assertEqual(floor.open_of("bob"), ([], []))

    def test_an_empty_floor(self):
        told = Floor(100, 10).open_of("ann")
        self.assertEqual(told, ([], []))
        self.assertIsNot(told[0], told[1])


class LongestLinesTest(FloorCase):
    def test_three_hundred_in_each_line(self):
        floor = Floor(1000, 5)
        for place in range(300):
            floor.enter("limit", buy(f"b{place}", 700 + place, 5))
            floor.enter("limit", sell(f"s{place}", 1301 - place, 5))
        self.assertEqual(floor.turn("open"), [("phase", "open")])
        phase, last, buys, sells, asleep = floor.look()
        self.assertEqual(buys, line_of(*[buy(f"b{place}", 700 + place, 5) for place in range(300)]))
        self.assertEqual(names(sells)[:2], ["s299", "s298"])
        facts = floor.enter("now", buy("x", 2000, 100))
        self.assertEqual([fact[0] for fact in facts], ["trade"] * 4 + ["gone", "phase"])
        self.assertEqual(facts[3], ("trade", "x", "s296", 1005, 5))


if __name__ == "__main__":
    unittest.main()
