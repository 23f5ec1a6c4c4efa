import itertools
import unittest

from tests.samples import (ALL_WORLDS, DO_P, DO_Q, DO_R, IF_A, IF_B, IF_C, JUNK, TREES, hold, mixed, nested, no, nots,
                           pick, row, spoilt, told_held, told_tick, trees_of, wide)
from ticktrees.errors import NoDeed
from ticktrees.ticking import Ticker, is_world, run, worlds


class IsWorld(unittest.TestCase):
    def test_each_world(self):
        self.assertEqual(len(ALL_WORLDS), 216)
        for world in ALL_WORLDS:
            self.assertIs(is_world(world), True, world)

    def test_worlds_spoilt(self):
        for world in ALL_WORLDS:
            for thing in spoilt(world):
                told = type(thing) is tuple and any(thing == other for other in ALL_WORLDS)
                self.assertIs(is_world(thing), told, thing)

    def test_letters_in_another_place(self):
        for senses in ("ba", "cb", "ca", "acb", "cba", "aa", "abb", "abca", "d", "p", "ax", "A", " ", "a b"):
            self.assertIs(is_world((senses, "ddd")), False, senses)
        for signs in ("", "d", "df", "dddd", "dfgd", "abc", "ddx", "pqr", "DDD", "dd ", " ddd", "ddd\n"):
            self.assertIs(is_world(("a", signs)), False, signs)

    def test_of_other_kinds(self):
        for thing in JUNK:
            self.assertIs(is_world(thing), False, thing)
            self.assertIs(is_world((thing, "ddd")), isinstance(thing, str) and thing in ("", "a", "abc"), thing)
            self.assertIs(is_world(("a", thing)), isinstance(thing, str) and thing == "ddd", thing)
            for levels in range(9):
                self.assertIs(is_world(nested(levels, thing)), False, thing)
        for thing in (["a", "ddd"], ("a", ["d", "d", "d"]), (("a",), "ddd"), (["a"], "ddd"), ("a", ("d", "d", "d")),
                      ("a", "ddd", ""), ("a", "ddd", "ddd"), ("ddd", "a"), "addd", ("ddd",), (("a", "ddd"),), ((), "ddd")):
            self.assertIs(is_world(thing), False, thing)


class Worlds(unittest.TestCase):
    def test_none_of_either(self):
        self.assertEqual(worlds("", ""), (("", "ddd"),))

    def test_one_sense_or_deed(self):
        self.assertEqual(worlds("b", ""), (("", "ddd"), ("b", "ddd")))
        self.assertEqual(worlds("", "p"), (("", "ddd"), ("", "fdd"), ("", "gdd")))
        self.assertEqual(worlds("", "q"), (("", "ddd"), ("", "dfd"), ("", "dgd")))
        self.assertEqual(worlds("", "r"), (("", "ddd"), ("", "ddf"), ("", "ddg")))
        self.assertEqual(worlds("a", "q"), (("", "ddd"), ("", "dfd"), ("", "dgd"),
                                            ("a", "ddd"), ("a", "dfd"), ("a", "dgd")))

    def test_senses_rise_as_texts_do(self):
        self.assertEqual(worlds("abc", ""), tuple((senses, "ddd") for senses in (
            "", "a", "ab", "abc", "ac", "b", "bc", "c")))

    def test_all_texts(self):
        for senses in ("", "a", "b", "c", "ab", "ac", "bc", "abc", "ba", "cab"):
            for deeds in ("", "p", "q", "r", "pq", "pr", "qr", "pqr", "rp", "qrp"):
                told = tuple(world for world in ALL_WORLDS if set(world[0]) <= set(senses) and all(
                    sign == "d" or deed in deeds for deed, sign in zip("pqr", world[1])))
                self.assertEqual(worlds(senses, deeds), told)
                self.assertEqual(len(told), 2 ** len(senses) * 3 ** len(deeds))


class OneTick(unittest.TestCase):
    def tell(self, tree, world, deeds, result, held=()):
        ticker = Ticker(tree)
        self.assertEqual(ticker.tick(world), (deeds, result))
        self.assertEqual(ticker.held(), held)

    def test_if(self):
        for sense in "abc":
            self.tell(("if", sense), (sense, "fff"), "", "d")
            self.tell(("if", sense), ("abc", "ggg"), "", "d")
            self.tell(("if", sense), ("abc".replace(sense, ""), "ddd"), "", "f")
            self.tell(("if", sense), ("", "ddd"), "", "f")

    def test_do(self):
        for deed, place in zip("pqr", range(3)):
            for sign in "dfg":
                for other in "dfg":
                    signs = other * place + sign + other * (2 - place)
                    self.tell(("do", deed), ("ac", signs), deed, sign)

    def test_not(self):
        self.tell(no(DO_P), ("", "dgg"), "p", "f")
        self.tell(no(DO_P), ("", "fgg"), "p", "d")
        self.tell(no(DO_P), ("", "gdd"), "p", "g")
        self.tell(no(IF_A), ("", "ddd"), "", "d")
        self.tell(no(IF_A), ("a", "ddd"), "", "f")
        self.tell(no(no(DO_Q)), ("", "dfd"), "q", "f")

    def test_row(self):
        tree = row(DO_P, DO_Q, DO_R)
        for signs, deeds, result in (("ddd", "pqr", "d"), ("ddf", "pqr", "f"), ("ddg", "pqr", "g"), ("dfd", "pq", "f"),
                                     ("dgd", "pq", "g"), ("fdd", "p", "f"), ("gdd", "p", "g"), ("gff", "p", "g")):
            self.tell(tree, ("", signs), deeds, result)
        self.tell(row(IF_A, DO_P), ("a", "ddd"), "p", "d")
        self.tell(row(IF_A, DO_P), ("b", "ddd"), "", "f")

    def test_pick(self):
        tree = pick(DO_P, DO_Q, DO_R)
        for signs, deeds, result in (("fff", "pqr", "f"), ("ffd", "pqr", "d"), ("ffg", "pqr", "g"), ("fdf", "pq", "d"),
                                     ("fgf", "pq", "g"), ("dff", "p", "d"), ("gff", "p", "g"), ("gdd", "p", "g")):
            self.tell(tree, ("", signs), deeds, result)
        self.tell(pick(IF_A, DO_P), ("a", "ddd"), "", "d")
        self.tell(pick(IF_A, DO_P), ("b", "gdd"), "p", "g")

    def test_hold(self):
        tree = hold(DO_P, DO_Q, DO_R)
        for signs, deeds, result, held in (
                ("ddd", "pqr", "d", ()), ("ddf", "pqr", "f", ()), ("ddg", "pqr", "g", (((), 2),)), ("dfd", "pq", "f", ()),
                ("dgd", "pq", "g", (((), 1),)), ("fdd", "p", "f", ()), ("gdd", "p", "g", ())):
            self.tell(tree, ("", signs), deeds, result, held)

    def test_a_deed_may_be_done_again_and_out_of_order(self):
        self.tell(row(DO_R, DO_P, DO_R, no(no(DO_P)), DO_Q), ("", "ddd"), "rprpq", "d")
        self.tell(pick(row(DO_P, DO_Q), DO_P), ("", "dfd"), "pqp", "d")


class Places(unittest.TestCase):
    def tell(self, tree, *ticks):
        ticker = Ticker(tree)
        for number, (world, deeds, result, held) in enumerate(ticks):
            self.assertEqual((number,) + ticker.tick(world), (number, deeds, result))
            self.assertEqual((number, ticker.held()), (number, held))

    def test_held_held_anew_and_let_go_at_its_end(self):
        self.tell(hold(DO_P, DO_Q, DO_R),
                  (("", "dgd"), "pq", "g", (((), 1),)),
                  (("", "fgd"), "q", "g", (((), 1),)),
                  (("", "fdg"), "qr", "g", (((), 2),)),
                  (("", "ffd"), "r", "d", ()),
                  (("", "ddd"), "pqr", "d", ()))

    def test_let_go_by_a_failure(self):
        self.tell(hold(DO_P, DO_Q, DO_R),
                  (("", "ddg"), "pqr", "g", (((), 2),)),
                  (("", "ddf"), "r", "f", ()),
                  (("", "gdd"), "p", "g", ()),
                  (("", "fdd"), "p", "f", ()))

    def test_of_the_first_part_is_as_none(self):
        self.tell(hold(DO_P, DO_Q),
                  (("", "gdd"), "p", "g", ()),
                  (("", "gdd"), "p", "g", ()),
                  (("", "dgd"), "pq", "g", (((), 1),)),
                  (("", "gdd"), "q", "d", ()))

    def test_let_go_where_no_tick_comes(self):
        self.tell(row(IF_A, hold(DO_P, DO_Q)),
                  (("a", "dgd"), "pq", "g", (((1,), 1),)),
                  (("a", "ggd"), "q", "g", (((1,), 1),)),
                  (("", "dgd"), "", "f", ()),
                  (("a", "dgd"), "pq", "g", (((1,), 1),)))

    def test_in_a_pick(self):
        self.tell(pick(hold(DO_P, DO_Q), hold(DO_R, DO_Q)),
                  (("", "dgd"), "pq", "g", (((0,), 1),)),
                  (("", "dfd"), "qrq", "f", ()),
                  (("", "fgd"), "prq", "g", (((1,), 1),)),
                  (("", "fgd"), "pq", "g", (((1,), 1),)),
                  (("", "dgd"), "pq", "g", (((0,), 1),)))

    def test_in_a_not(self):
        self.tell(no(hold(DO_P, DO_Q)),
                  (("", "dgd"), "pq", "g", (((0,), 1),)),
                  (("", "ddd"), "q", "f", ()),
                  (("", "fdd"), "p", "d", ()))
        self.tell(hold(IF_A, no(DO_P)),
                  (("a", "gdd"), "p", "g", (((), 1),)),
                  (("", "gdd"), "p", "g", (((), 1),)),
                  (("", "fdd"), "p", "d", ()))

    def test_holds_in_holds(self):
        self.tell(hold(DO_P, hold(DO_Q, DO_R), hold(IF_A, DO_P)),
                  (("", "ddg"), "pqr", "g", (((), 1), ((1,), 1))),
                  (("", "ffg"), "r", "g", (((), 1), ((1,), 1))),
                  (("a", "ggd"), "rp", "g", (((), 2), ((2,), 1))),
                  (("", "gdd"), "p", "g", (((), 2), ((2,), 1))),
                  (("", "ddd"), "p", "d", ()))

    def test_a_hold_within_keeps_its_place_while_the_one_around_is_at_its_first(self):
        self.tell(hold(hold(DO_P, DO_Q), DO_R),
                  (("", "dgd"), "pq", "g", (((0,), 1),)),
                  (("", "dgd"), "q", "g", (((0,), 1),)),
                  (("", "ddg"), "qr", "g", (((), 1),)),
                  (("", "ddd"), "r", "d", ()))

    def test_rising(self):
        deep_one = hold(IF_A, row(IF_A, hold(IF_A, no(hold(IF_A, DO_P)))))
        self.tell(deep_one, (("a", "gdd"), "p", "g", (((), 1), ((1, 1), 1), ((1, 1, 1, 0), 1))))
        long_one = hold(*(IF_A,) * 11 + (hold(IF_A, IF_A, DO_P),))
        self.tell(long_one, (("a", "gdd"), "p", "g", (((), 11), ((11,), 2))),
                  (("", "gdd"), "p", "g", (((), 11), ((11,), 2))))

    def test_of_what_is_asked_while_it_goes_on(self):
        self.tell(hold(IF_A, pick(IF_B, DO_P), IF_C),
                  (("a", "gdd"), "p", "g", (((), 1),)),
                  (("b", "gdd"), "", "f", ()),
                  (("bc", "gdd"), "", "f", ()),
                  (("abc", "gdd"), "", "d", ()))

    def test_all_small_trees_in_all_short_rows(self):
        some = worlds("a", "pq")
        for tree in trees_of(4) + list(TREES) + [wide(25), nots(8, DO_P)]:
            stand = None
            ticker = Ticker(tree)
            for world in mixed(some if tree not in TREES else ALL_WORLDS, 40):
                result, deeds, stand = told_tick(tree, stand, world)
                self.assertEqual(ticker.tick(world), (deeds, result), tree)
                self.assertEqual(ticker.held(), told_held(stand), tree)

    def test_trees_of_many_holds_in_all_rows_of_three(self):
        trees = [hold(hold(DO_P, DO_Q), hold(DO_Q, DO_P)), hold(row(IF_A, hold(DO_P, DO_Q)), DO_P),
                 pick(hold(IF_A, DO_P, DO_Q), no(hold(DO_Q, DO_P)))]
        for tree in trees:
            for some in itertools.product(worlds("a", "pq"), repeat=3):
                stand = None
                told = []
                for world in some:
                    result, deeds, stand = told_tick(tree, stand, world)
                    told.append((world, deeds, result))
                self.assertEqual(run(tree, some), tuple(told))


class Tickers(unittest.TestCase):
    def test_a_new_one(self):
        for tree in TREES:
            ticker = Ticker(tree)
            self.assertEqual(ticker.held(), ())
            self.assertEqual(ticker.told(), ())

    def test_told_behind_each_tick(self):
        ticker = Ticker(hold(DO_P, DO_Q))
        ticker.tick(("", "dgd"))
        self.assertEqual(ticker.told(), ((("", "dgd"), "pq", "g"),))
        ticker.tick(("a", "ddd"))
        self.assertEqual(ticker.told(), ((("", "dgd"), "pq", "g"), (("a", "ddd"), "q", "d")))
        self.assertEqual(ticker.told(), ((("", "dgd"), "pq", "g"), (("a", "ddd"), "q", "d")))

    def test_kinds_of_what_is_told(self):
        ticker = Ticker(hold(IF_A, DO_Q))
        told = ticker.tick(("a", "dgd"))
        self.assertIs(type(told), tuple)
        self.assertEqual([type(one) for one in told], [str, str])
        self.assertIs(type(ticker.held()), tuple)
        self.assertIs(type(ticker.held()[0]), tuple)
        self.assertIs(type(ticker.told()), tuple)
        self.assertIs(type(ticker.told()[0]), tuple)
        self.assertIs(type(worlds("a", "p")), tuple)
        self.assertIs(type(run(IF_A, ())), tuple)

    def test_let_go(self):
        ticker = Ticker(hold(DO_P, hold(DO_Q, DO_R)))
        ticker.tick(("", "ddg"))
        told = ticker.told()
        self.assertEqual(ticker.held(), (((), 1), ((1,), 1)))
        self.assertIsNone(ticker.let_go())
        self.assertEqual(ticker.held(), ())
        self.assertEqual(ticker.told(), told)
        self.assertEqual(ticker.tick(("", "fgg")), ("p", "f"))

    def test_undo_of_a_tick(self):
        ticker = Ticker(hold(DO_P, DO_Q, DO_R))
        ticker.tick(("", "dgd"))
        ticker.tick(("", "ddg"))
        self.assertEqual(ticker.held(), (((), 2),))
        self.assertIsNone(ticker.undo())
        self.assertEqual(ticker.held(), (((), 1),))
        self.assertEqual(ticker.told(), ((("", "dgd"), "pq", "g"),))
        self.assertEqual(ticker.tick(("", "fff")), ("q", "f"))
        ticker.undo()
        self.assertEqual(ticker.tick(("", "fdd")), ("qr", "d"))

    def test_undo_of_letting_go(self):
        ticker = Ticker(hold(DO_P, DO_Q))
        ticker.let_go()
        ticker.tick(("", "dgd"))
        ticker.let_go()
        ticker.let_go()
        ticker.undo()
        self.assertEqual(ticker.held(), ())
        ticker.undo()
        self.assertEqual(ticker.held(), (((), 1),))
        self.assertEqual(len(ticker.told()), 1)
        ticker.undo()
        self.assertEqual(ticker.told(), ())
        ticker.undo()
        self.assertRaises(NoDeed, ticker.undo)

    def test_undo_gives_places_of_number_0_back_too(self):
        ticker = Ticker(hold(hold(IF_A, DO_P), DO_Q))
        ticker.tick(("a", "gdd"))
        ticker.tick(("", "fdd"))
        ticker.undo()
        self.assertEqual(ticker.held(), (((0,), 1),))
        self.assertEqual(ticker.tick(("", "ddd")), ("pq", "d"))

    def test_nothing_to_undo(self):
        ticker = Ticker(hold(DO_P, DO_Q))
        self.assertRaises(NoDeed, ticker.undo)
        self.assertRaises(NoDeed, ticker.undo)
        self.assertEqual((ticker.held(), ticker.told()), ((), ()))
        ticker.tick(("", "dgd"))
        ticker.undo()
        self.assertRaises(NoDeed, ticker.undo)
        self.assertEqual((ticker.held(), ticker.told()), ((), ()))
        self.assertEqual(ticker.tick(("", "dgd")), ("pq", "g"))
        self.assertEqual(ticker.held(), (((), 1),))
        self.assertEqual(ticker.told(), ((("", "dgd"), "pq", "g"),))

    def test_undo_all_the_way_back(self):
        for tree in TREES:
            ticker = Ticker(tree)
            seen = []
            for number, world in enumerate(mixed(ALL_WORLDS, 30)):
                seen.append((ticker.held(), ticker.told()))
                if number % 4 == 3:
                    ticker.let_go()
                else:
                    ticker.tick(world)
            while seen:
                self.assertIsNone(ticker.undo())
                self.assertEqual((ticker.held(), ticker.told()), seen.pop())
            self.assertRaises(NoDeed, ticker.undo)
            some = mixed(ALL_WORLDS, 8)
            for world in some:
                ticker.tick(world)
            self.assertEqual(ticker.told(), run(tree, some))

    def test_what_was_told_is_not_changed_later(self):
        ticker = Ticker(hold(DO_P, DO_Q))
        ticker.tick(("", "dgd"))
        held, told = ticker.held(), ticker.told()
        ticker.tick(("", "ddd"))
        ticker.let_go()
        self.assertEqual((held, told), ((((), 1),), ((("", "dgd"), "pq", "g"),)))

    def test_asking_is_no_deed(self):
        ticker = Ticker(hold(DO_P, DO_Q))
        ticker.tick(("", "dgd"))
        ticker.held()
        ticker.told()
        ticker.undo()
        self.assertRaises(NoDeed, ticker.undo)

    def test_two_do_not_touch_one_another(self):
        tree = hold(DO_P, DO_Q)
        one, other = Ticker(tree), Ticker(tree)
        one.tick(("", "dgd"))
        self.assertEqual((other.held(), other.told()), ((), ()))
        self.assertRaises(NoDeed, other.undo)
        other.tick(("", "fgd"))
        other.let_go()
        self.assertEqual(one.held(), (((), 1),))
        self.assertEqual(one.tick(("", "ddd")), ("q", "d"))
        self.assertEqual(other.told(), ((("", "fgd"), "p", "f"),))
        one.undo()
        one.undo()
        self.assertEqual(len(other.told()), 1)

    def test_methods_stand_in_the_class_itself(self):
        for name in ("__init__", "tick", "held", "told", "let_go", "undo"):
            self.assertIn(name, vars(Ticker))


class Run(unittest.TestCase):
    def test_no_worlds(self):
        for tree in TREES:
            self.assertEqual(run(tree, ()), ())

    def test_places_are_held_from_tick_to_tick(self):
        self.assertEqual(run(hold(DO_P, DO_Q), (("", "dgd"), ("", "fgd"), ("a", "fdd"), ("", "fdd"))), (
            (("", "dgd"), "pq", "g"), (("", "fgd"), "q", "g"), (("a", "fdd"), "q", "d"), (("", "fdd"), "p", "f")))

    def test_what_a_new_ticker_tells_tick_by_tick(self):
        for tree in TREES:
            some = mixed(ALL_WORLDS, 60)
            ticker = Ticker(tree)
            told = []
            for number, world in enumerate(some):
                deeds, result = ticker.tick(world)
                told.append((world, deeds, result))
                self.assertEqual(ticker.told(), run(tree, some[:number + 1]))
            self.assertEqual(run(tree, some), tuple(told))
            self.assertEqual(run(tree, some), tuple(told))

    def test_no_place_is_held_to_which_the_last_tick_did_not_come(self):
        for tree in TREES:
            ticker = Ticker(tree)
            stand = None
            for world in mixed(ALL_WORLDS, 60):
                stand = told_tick(tree, stand, world)[2]
                ticker.tick(world)
                for way, number in ticker.held():
                    here = stand
                    for step in way:
                        here = here[1][step]
                    self.assertIsNotNone(here)
                    self.assertEqual(here[0], number)


if __name__ == "__main__":
    unittest.main()
