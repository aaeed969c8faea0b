"""[15] border; [16] next_after; and nodes that are dead [13, 16]."""

import unittest

from builders import GREATEST_INT, INF, NAN, filled, real, thrown
from upvalues.code import Code
from upvalues.errors import InvalidArgument
from upvalues.numbers import Float
from upvalues.objects import Thrown
from upvalues.tables import Table


def walked(table, key=None):
    """All that next_after tells from a key on."""
    found = []
    step = table.next_after(key)
    while step is not None:
        found.append(step)
        step = table.next_after(step[0])
    return found


class BorderTest(unittest.TestCase):
    def check(self, table, border):
        self.assertEqual(table.border(), border, (table.room(), table.rows()))

    def test_empty(self):
        for table in (Table(0), Table(0, 1), Table(0, 7), Table(0, 0, 4), Table(0, 8, 8), filled(Table(0), "a", "b")):
            self.check(table, 0)

    def test_places_in_a_row(self):
        for many in range(1, 20):
            self.check(filled(Table(0), *range(1, many + 1)), many)
            self.check(filled(Table(0, 32), *range(1, many + 1)), many)

    def test_holes_in_places_with_the_last_one_empty(self):
        # Among 8 places: 4, then 6 or 2, then the one between.
        self.check(filled(Table(0, 8), 4, 6, 7), 7)
        self.check(filled(Table(0, 8), 4), 4)
        self.check(filled(Table(0, 8), 1, 2, 3, 5, 6, 7), 3)
        self.check(filled(Table(0, 8), 1, 5, 6, 7), 1)
        self.check(filled(Table(0, 8), 5, 6, 7), 0)
        self.check(filled(Table(0, 8), 2), 2)
        self.check(filled(Table(0, 3), 1), 1)
        self.check(filled(Table(0, 3), 2), 0)

    def test_holes_with_a_value_at_the_last_place(self):
        self.check(filled(Table(0, 8), 8), 8)
        self.check(filled(Table(0, 4), 1, 4), 4)
        self.check(filled(Table(0, 4, 2), 4, "a"), 4)

    def test_last_place_taken_away(self):
        table = filled(Table(0), 1, 2, 3, 4)
        table.put(4, None)
        self.check(table, 3)
        table.put(3, None)
        self.check(table, 2)
        table.put(1, None)
        self.check(table, 2)
        table.put(2, None)
        self.check(table, 0)

    def test_an_empty_last_place_hides_the_nodes(self):
        table = filled(Table(0, 2, 4), 1, 3, 4)
        self.check(table, 1)
        table.put(2, 2)
        self.check(table, 4)

    def test_beyond_the_places(self):
        table = filled(Table(0, 4, 8), 1, 2, 3, 4, 5, 6)
        # 8 has no value; between 4 and 8 it is halved.
        self.check(table, 6)
        table.put(7, 7)
        self.check(table, 7)
        table.put(8, 8)
        self.check(table, 8)
        table.put(5, None)
        self.check(table, 4)

    def test_nodes_alone(self):
        self.check(filled(Table(0, 0, 8), 1, 2, 3), 3)
        self.check(filled(Table(0, 0, 8), 1), 1)
        self.check(filled(Table(0, 0, 8), 2, 3), 0)
        self.check(filled(Table(0, 0, 8), 1, 2, 4), 4)
        self.check(filled(Table(0, 0, 8), 1, 2, 4, 6), 6)
        self.check(filled(Table(0, 0, 8), 1, 2, 4, 8, 12), 12)
        self.check(filled(Table(0, 0, 8), 1, 2, 3, 4, 5, 7), 5)

    def test_far_integers(self):
        powers = [2 ** power for power in range(63)]
        self.check(filled(Table(0, 0, 64), *powers[:40]), 2 ** 39)
        self.check(filled(Table(0, 0, 64), *powers[:40], 2 ** 39 + 2 ** 38), 2 ** 39 + 2 ** 38)
        # Behind 2 ** 62 the last step goes to the greatest integer.
        self.check(filled(Table(0, 0, 64), *powers), 2 ** 62)
        self.check(filled(Table(0, 0, 64), *powers, 2 ** 62 + 2 ** 61), 2 ** 62)
        self.check(filled(Table(0, 0, 64), *powers, GREATEST_INT), GREATEST_INT)
        self.check(filled(Table(0, 0, 64), *powers[:62], GREATEST_INT), 2 ** 61)

    def test_halving_up_to_the_greatest_integer(self):
        middle = (2 ** 62 + GREATEST_INT) // 2
        self.assertEqual(middle, 2 ** 62 + 2 ** 61 - 1)
        self.check(filled(Table(0, 0, 64), *[2 ** power for power in range(63)], middle), middle)

    def test_with_odd_numbers_of_places(self):
        self.check(filled(Table(0, 3, 8), 1, 2, 3, 4, 5), 5)
        self.check(filled(Table(0, 3, 8), 1, 2, 3, 4, 6), 6)
        self.check(filled(Table(0, 5, 8), 5, 6, 10, 20), 20)

    def test_it_is_a_border(self):
        table = filled(Table(0, 0, 4), *range(1, 40, 2), *range(2, 20, 4))
        border = table.border()
        self.assertTrue((border == 0 or table.get(border) is not None) and table.get(border + 1) is None)


class NextTest(unittest.TestCase):
    def setUp(self):
        self.table = filled(Table(0, 4, 4), 1, 3, 4, "a", "e", real(0.5), True)

    def test_empty(self):
        for table in (Table(0), Table(0, 4), Table(0, 0, 4), Table(0, 3, 3)):
            self.assertIsNone(table.next_after(None))

    def test_places_then_nodes(self):
        nodes = [(row[0], row[1]) for row in self.table.rows()]
        self.assertEqual(len(nodes), 4)
        self.assertEqual(walked(self.table), [(1, 1), (3, 3), (4, 4)] + nodes)
        self.assertIsInstance(self.table.next_after(None), tuple)

    def test_from_each_key_on(self):
        whole = walked(self.table)
        for at, (key, _) in enumerate(whole):
            self.assertEqual(walked(self.table, key), whole[at + 1:])
        self.assertEqual(self.table.next_after(2), (3, 3))
        self.assertEqual([self.table.next_after(real(1.0)), self.table.next_after(real(2.0))], [(3, 3)] * 2)
        self.assertIsNone(self.table.next_after(whole[-1][0]))

    def test_false_is_a_value(self):
        table = Table(0, 2)
        table.put(2, False)
        table.put("x", False)
        self.assertEqual(walked(table), [(2, False), ("x", False)])

    def test_keys_that_are_not_there(self):
        for key in (0, 5, -1, "b", "", real(1.5), False, NAN, INF, Table(1), GREATEST_INT, Float(1, 1, 64)):
            self.assertEqual(thrown(self.table.next_after, key), "invalid key to 'next'", key)
        for table in (Table(0), Table(0, 3)):
            self.assertEqual([thrown(table.next_after, key) for key in ("x", 0, 4, NAN)], ["invalid key to 'next'"] * 4)

    def test_things_of_any_kind(self):
        things = ([], [1], (), (1,), {}, {"a": 1}, set(), {1}, 1.0, 0.5, float("nan"), 1j, b"a", b"", bytearray(b"a"), object(), Ellipsis, range(3), len, int,
                  Code(0, False, 0, [], [], [], []), Thrown("a"), InvalidArgument("a"))
        for thing in things:
            for table in (self.table, Table(0), Table(0, 3), Table(0, 0, 4)):
                self.assertEqual(thrown(table.next_after, thing), "invalid key to 'next'", thing)

    def test_places_without_value_are_keys(self):
        table = Table(0, 3)
        self.assertEqual([table.next_after(key) for key in (1, 2, 3)], [None] * 3)

    def test_taking_away_while_walking(self):
        keys = []
        step = self.table.next_after(None)
        while step is not None:
            keys.append(step[0])
            self.table.put(step[0], None)
            step = self.table.next_after(step[0])
        self.assertEqual(keys[:3], [1, 3, 4])
        self.assertEqual(len(keys), 7)
        self.assertEqual(walked(self.table), [])
        # The nodes keep their keys.
        self.assertIsNone(self.table.next_after("a"))

    def test_changing_while_walking(self):
        found = []
        step = self.table.next_after(None)
        while step is not None:
            found.append(step)
            self.table.put(step[0], "new")
            step = self.table.next_after(step[0])
        self.assertEqual([value for _, value in found[:3]], [1, 3, 4])
        self.assertEqual([value for _, value in walked(self.table)], ["new"] * 7)

    def test_others_taken_away_while_walking(self):
        self.table.put(3, None)
        self.table.put("e", None)
        keys = [key for key, _ in walked(self.table)]
        self.assertNotIn("e", keys)
        self.assertEqual([keys[:2], len(keys)], [[1, 4], 5])
        self.assertEqual(self.table.next_after(3), (4, 4))

    def test_what_growing_forgets(self):
        table = filled(Table(0), "a", "b")
        table.put("a", None)
        self.assertEqual(table.next_after("a"), None)
        table.put("c", 1)
        table.put("d", 1)
        self.assertEqual(thrown(table.next_after, "a"), "invalid key to 'next'")


class DeadTest(unittest.TestCase):
    """Collections, which make nodes dead, come later; here the nodes are made so by hand."""

    def setUp(self):
        self.table = filled(Table(0, 0, 4), "a", "e", "i")
        self.table.put("e", None)
        node = self.table.nodes[3]
        node.is_dead = True

    def test_found_by_next_after_alone(self):
        self.assertEqual(self.table.rows(), [None, ("a", "a", 2), ("i", "i", 3), ("e", None, None)])
        self.assertIsNone(self.table.get("e"))
        self.assertIsNone(self.table.next_after("e"))
        self.assertEqual(walked(self.table), [("a", "a"), ("i", "i")])

    def test_put_anew(self):
        self.table.put("e", 1)
        self.assertEqual(self.table.rows(), [("e", 1, 2), ("a", "a", 0), ("i", "i", 3), ("e", None, None)])
        self.assertEqual([self.table.get("e"), self.table.next_after("e")], [1, ("a", "a")])

    def test_a_new_key_brings_the_node_to_life(self):
        self.table.put("c", 1)
        self.assertEqual(self.table.rows()[3], ("c", 1, None))
        self.assertEqual([self.table.get("c"), self.table.get("e")], [1, None])
        self.assertEqual(thrown(self.table.next_after, "e"), "invalid key to 'next'")

    def test_none_for_a_dead_key(self):
        self.table.put("e", None)
        self.assertEqual(self.table.rows()[3], ("e", None, None))


if __name__ == "__main__":
    unittest.main()
