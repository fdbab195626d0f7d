"""House books and their texts ([91] to [93], [95], [96])."""

import random
import unittest

from helpers import OPS, WRONG_NUMBERS, WRONG_ROWS, refusal
from housing import ORDERS, drawn_house, house_of
from selfwritten.houses import House

PLUS = ("plus", "dxy", ("add", "x", "y"))
FILL = ("fill", "dn", ("n",))
DONE = ("plus", "d", "x", "y")

TEXT = ("width 6\nregisters 3\norder plus dxy add x y\norder mask dxn and x n\norder set dn n\n"
        "rule add plus d x y / mask d d ones\nrule num set d n\n")


def wrong(orders=(PLUS,), rules=(), width=6, registers=5):
    return refusal(House, width, registers, orders, rules)


class Attributes(unittest.TestCase):
    def test_tuples(self):
        orders = [["plus", "dxy", ["add", "x", "y"]], FILL]
        rules = [["add", [["plus", "d", "x", "y"]]], ("num", [("fill", "d", "n")])]
        house = House(6, 3, orders, rules)
        self.assertEqual((house.width, house.registers, house.orders), (6, 3, (PLUS, FILL)))
        self.assertEqual(house.rules, (("add", (DONE,)), ("num", (("fill", "d", "n"),))))
        orders[0][2][0] = "sub"
        rules[0][1][0][1] = "u"
        orders.pop()
        self.assertEqual((house.orders, house.rules[0]), ((PLUS, FILL), ("add", (DONE,))))

    def test_order_named(self):
        house = House(6, 3, [PLUS, FILL], [])
        self.assertEqual([house.order_named("plus"), house.order_named("fill")], [PLUS, FILL])
        for name in ("mask", "", None, 3, ["plus"], ("plus",)):
            self.assertEqual(refusal(house.order_named, name), ("BadHouse", "order", -1))

    def test_equal(self):
        house = House(6, 3, [PLUS, FILL], [("add", [DONE])])
        self.assertTrue(house == House(6, 3, (PLUS, FILL), [["add", [list(DONE)]]]))
        for other in (House(7, 3, [PLUS, FILL], [("add", [DONE])]), House(6, 4, [PLUS, FILL], [("add", [DONE])]),
                      House(6, 3, [FILL, PLUS], [("add", [DONE])]), House(6, 3, [PLUS, FILL], []),
                      House(6, 3, [PLUS, FILL], [("sub", [DONE])]), None, 6, "house", house.text()):
            self.assertFalse(house == other)

    def test_the_edges_that_may_be(self):
        names = ["abcdefghijklmnopqrstuvwx"[at] for at in range(24)]
        orders = [(name, "dxy", ("add", "x", "y")) for name in names]
        orders[0] = ("abcdefgh", "dxyn", ["add"] * 15 + ["1"] * 16)
        house = House(12, 8, orders, [("add", [("b", "d", "x", "y")] * 40)] * 24)
        self.assertEqual((len(house.orders), len(house.rules), len(house.rules[0][1])), (24, 24, 40))
        self.assertEqual(House(4, 3, [("a", "d", ("15",))], []).rules, ())


class Numbers(unittest.TestCase):
    def test_width_and_registers(self):
        for width in (3, 13, -1, *WRONG_NUMBERS):
            self.assertEqual(refusal(House, width, 0, None, None), ("BadNumber", "width"))
        for registers in (2, 9, -1, *WRONG_NUMBERS):
            self.assertEqual(refusal(House, 4, registers, None, None), ("BadNumber", "registers"))
        for width, registers in ((4, 3), (12, 8)):
            self.assertIsNone(refusal(House, width, registers, [PLUS], []))


class Orders(unittest.TestCase):
    def test_the_row(self):
        for orders in (*WRONG_ROWS, (), [PLUS] * 25):
            self.assertEqual(wrong(orders, None), ("BadHouse", "order", 0))

    def test_each_entry(self):
        entries = [*WRONG_ROWS, (), ("plus",), ("plus", "dxy"), ("other", "dxy", ("add", "x", "y"), 1), PLUS,
                   ("", "d", ("d",)), ("abcdefghi", "d", ("d",)), ("Odd", "d", ("d",)), ("o1", "d", ("d",)),
                   (None, "d", ("d",)), (("a",), "d", ("d",)), (3, "d", ("d",)), (["a"], "d", ("d",)),
                   ("odd", "", ("1",)), ("odd", "x", ("x",)), ("odd", "xd", ("x",)), ("odd", "dyx", ("x",)),
                   ("odd", "dd", ("d",)), ("odd", "dnx", ("x",)), ("odd", "dm", ("m",)), ("odd", ("d",), ("d",)),
                   ("odd", None, ("d",)), ("odd", ["d"], ("d",)), ("odd", "d", "d"), ("odd", "d", ()), ("odd", "d", None),
                   ("odd", "d", {"d": 1}), ("odd", "d", ("x",)), ("odd", "dx", ("y",)), ("odd", "dn", ("x",)),
                   ("odd", "dxy", ("xy",)), ("odd", "dx", ("add", "x")), ("odd", "dx", ("x", "x")),
                   ("odd", "dx", ("add", "x", "x", "x")), ("odd", "dx", ("x", "add", "x")),
                   ("odd", "dx", ("x", "x", "add")), ("odd", "dx", ("add", "x", "x", "xor", "x")), ("odd", "dx", ("Add", "x", "x")), ("odd", "dx", (1,)),
                   ("odd", "dx", (None,)), ("odd", "d", ("64",)), ("odd", "d", ("-1",)), ("odd", "d", ("01",)),
                   ("odd", "d", ("+1",)), ("odd", "d", ("1 ",)), ("odd", "d", ("",)), ("odd", "d", ("num",)),
                   ("odd", "d", ("ones",)), ("odd", "d", ("u",)), ("odd", "d", (["d"],)),
                   ("odd", "d", ["add"] * 16 + ["d"] * 17)]
        for entry in entries:
            self.assertEqual(wrong([PLUS, FILL, entry], None), ("BadHouse", "order", 2), entry)
        self.assertIsNone(wrong([PLUS, FILL, ("odd", "d", ("63",))]))
        # The first wrong one is told.
        self.assertEqual(wrong([PLUS, ("odd", "d", ()), PLUS], None), ("BadHouse", "order", 1))

    def test_numbers_by_the_width(self):
        for width in (4, 8, 12):
            self.assertIsNone(wrong([("a", "d", (str(2 ** width - 1),))], width=width))
            self.assertEqual(wrong([("a", "d", (str(2 ** width),))], width=width), ("BadHouse", "order", 0))


class Rules(unittest.TestCase):
    ORDERS = [PLUS, FILL, ("all", "dxyn", ("add", "x", "n")), ("own", "d", ("d",))]

    def test_the_row(self):
        for rules in (*WRONG_ROWS, [("add", [DONE])] * 25):
            self.assertEqual(wrong([PLUS], rules), ("BadHouse", "rule", 0))

    def test_each_entry(self):
        entries = [*WRONG_ROWS, (), ("add",), ("add", [DONE], 1), ("Add", [DONE]), ("read", [DONE]), ("", [DONE]),
                   (None, [DONE]), (3, [DONE]), (["add"], [DONE]), ("add", ()), ("add", [DONE] * 41), ("add", "plus"),
                   ("add", None), ("add", {}), ("add", [DONE, None]), ("add", ["plus"]), ("add", [()]),
                   ("add", [("minus", "d", "x", "y")]), ("add", [("plus", "d", "x")]), ("add", [DONE + ("x",)]),
                   ("add", [("plus", "x", "x", "y")]), ("add", [("plus", "y", "x", "y")]), ("add", [("plus", "1", "x", "y")]),
                   ("add", [("plus", "d", "n", "y")]), ("add", [("plus", "d", "1", "y")]), ("add", [("plus", "d", "x", "")]),
                   ("add", [("plus", "d", "x", "ones")]), ("add", [("plus", "d", 1, "y")]), ("add", [(None, "d", "x", "y")]),
                   ("add", [("plus", "d", None, "y")]), ("add", [("plus", ["d"], "x", "y")]), ("add", [(["own"], "d")]),
                   ("add", [("fill", "d", "n")]), ("add", [("fill", "d", "x")]), ("add", [("fill", "d", "64")]),
                   ("add", [("fill", "d", "-1")]), ("add", [("fill", "d", "01")]), ("add", [("fill", "d", 1)]),
                   ("add", [("fill", "d", "Ones")]), ("num", [("plus", "d", "x", "d")]), ("num", [("plus", "d", "d", "y")]),
                   ("num", [("fill", "d", "m")]), ("num", [("plus", "d", "n", "d")])]
        for entry in entries:
            self.assertEqual(wrong(self.ORDERS, [("add", [DONE]), entry]), ("BadHouse", "rule", 1), entry)
        self.assertEqual(wrong(self.ORDERS, [("add", [DONE]), None, ()]), ("BadHouse", "rule", 1))

    def test_operands_that_may_stand(self):
        for op in OPS:
            for d in ("d", "u", "v"):
                for x in ("d", "x", "y", "u", "v"):
                    for n in ("0", "63", "ones"):
                        self.assertIsNone(wrong(self.ORDERS, [(op, [("all", d, x, "y", n)])]))
        for x in ("d", "u", "v"):
            for n in ("0", "63", "ones", "n"):
                self.assertIsNone(wrong(self.ORDERS, [("num", [("all", x, "d", x, n)])]))

    def test_u_and_v_by_the_registers(self):
        for registers in range(3, 9):
            for operand, least in (("u", 4), ("v", 5)):
                for row in (("plus", operand, "x", "y"), ("plus", "d", operand, "y"), ("plus", "d", "x", operand)):
                    told = wrong(self.ORDERS, [("add", [DONE]), ("add", [row])], registers=registers)
                    self.assertEqual(told, None if registers >= least else ("BadHouse", "rule", 1))


class Texts(unittest.TestCase):
    def test_the_example(self):
        house = House.read(TEXT)
        self.assertEqual(house.text(), TEXT)
        self.assertEqual(house.rules[0], ("add", (DONE, ("mask", "d", "d", "ones"))))
        self.assertEqual((house.width, house.registers, house.orders[2]), (6, 3, ("set", "dn", ("n",))))

    def test_drawn_houses(self):
        rng = random.Random(95)
        for number in range(60):
            word = rng.randrange(4, 9)
            house = drawn_house(rng, word, rng.randrange(word, 13), 3 + number % 6)
            text = house.text()
            self.assertTrue(House.read(text) == house)
            self.assertEqual(House.read(text).text(), text)
        self.assertEqual(House(4, 3, [PLUS], []).text(), "width 4\nregisters 3\norder plus dxy add x y\n")
        self.assertTrue(House.read(house_of(4, 12, 8).text()) == house_of(4, 12, 8))

    def bad_line(self, text, number):
        self.assertEqual(refusal(House.read, text), ("BadLine", number), repr(text))

    def test_the_first_two_lines(self):
        for first in ("", "width", "width ", "width 6 6", "Width 6", "width 06", "width -6", "width x", " width 6",
                      "width  6", "width 6 ", "registers 3", "word 6", "width " + "9" * 41):
            self.bad_line(first + "\nregisters 3\n", 0)
            self.bad_line(first + "\nregisters\n", 0)
        for second in ("", "registers", "registers x", "width 6", "registers 3 3", "registers 03", "order a d d"):
            self.bad_line("width 6\n" + second + "\n", 1)

    def test_missing_and_unfinished_lines(self):
        self.bad_line("", 0)
        self.bad_line("width 6", 0)
        self.bad_line("width 6\n", 1)
        self.bad_line("width 6\nregisters 3", 1)
        self.bad_line(TEXT[:-1], 6)
        self.bad_line(TEXT + "r", 7)
        self.bad_line(TEXT + "\n", 7)

    def test_later_lines(self):
        for line in ("order", "order a", "order a d", "order a  d", "order  d d d", "order a d d ", " order a d d",
                     "rule", "rule add", "rule  add plus", "rule add plus ", "rule add  plus d x y", "Order a d d",
                     "form a d d", "/ a d d", "width 6", ""):
            self.bad_line("width 6\nregisters 3\norder plus dxy add x y\n" + line + "\nrule add plus d x y\n", 3)

    def test_orders_stand_ahead_of_rules(self):
        self.bad_line("width 6\nregisters 3\norder a d d\nrule add a d\norder b d d\n", 4)
        self.bad_line("width 6\nregisters 3\norder a d d\nrule add zzz\norder b d d\n", 4)

    def test_the_rest_is_left_to_the_house(self):
        head = "width 6\nregisters 3\n"
        for text, told in (
            ("width 3\nregisters 2\n", ("BadNumber", "width")), ("width 6\nregisters 2\n", ("BadNumber", "registers")),
            (head, ("BadHouse", "order", 0)), (head + "order A d d\n", ("BadHouse", "order", 0)),
            (head + "order a d d\norder a d d\n", ("BadHouse", "order", 1)),
            (head + "order a d d\nrule add /\n", ("BadHouse", "rule", 0)),
            (head + "order a d d\nrule add a d /\n", ("BadHouse", "rule", 0)),
            (head + "order a d d\nrule add a d / / a d\n", ("BadHouse", "rule", 0)),
            (head + "order a d d\nrule odd a d\n", ("BadHouse", "rule", 0)),
            (head + "order a d d\nrule add a d\nrule add a u\n", ("BadHouse", "rule", 1)),
        ):
            self.assertEqual(refusal(House.read, text), told, text)

    def test_a_text_that_is_read_is_the_text_of_the_house(self):
        rng = random.Random(951)
        signs = " \n/0123456789abdnuxy"
        read = 0
        for _ in range(6000):
            text = list(TEXT)
            for _ in range(rng.randrange(1, 3)):
                at = rng.randrange(len(text))
                text[at:at + rng.randrange(2)] = rng.choice(signs + " ")
            text = "".join(text)
            try:
                house = House.read(text)
            except Exception as error:
                self.assertIn(type(error).__name__, ("BadLine", "BadHouse", "BadNumber"))
                continue
            read += 1
            self.assertEqual(house.text(), text)
        self.assertGreater(read, 60)


class Named(unittest.TestCase):
    def test_orders_of_the_tests(self):
        self.assertEqual(house_of(4, 4).orders, tuple(ORDERS))


if __name__ == "__main__":
    unittest.main()
