"""[11] Table, room, rows; [12] main positions; [13] get and put; [14] growing and make_room."""

import random
import unittest

import model_tables as model
from builders import GREATEST_INT, INF, LEAST_INT, MINUS_INF, MINUS_ZERO, NAN, ZERO, filled, real, thrown
from upvalues.numbers import Float
from upvalues.objects import Kinded, Native, kind_name
from upvalues.tables import Table

BIG = Float(1, 1, 64)


class Numbered(Kinded):
    """Stands for the functions and threads that come with the runs."""

    def __init__(self, number):
        self.number = number


def shape(table):
    """The keys of all nodes with their links, None for unused ones."""
    return [None if row is None else (row[0], row[2]) for row in table.rows()]


class MadeTest(unittest.TestCase):
    def test_attributes(self):
        meta = Table(1)
        self.assertEqual([Table(7).number, Table(7).meta, kind_name(Table(7))], [7, None, "table"])
        self.assertIs(Table(2, meta=meta).meta, meta)

    def test_by_names(self):
        table = Table(number=3, array=2, nodes=3, meta=None)
        self.assertEqual([table.number, table.room()], [3, (2, 4)])
        table.put(key=1, value="x")
        self.assertEqual([table.get(key=1), table.next_after(key=None), table.make_room(count=3), table.room()], ["x", (1, "x"), None, (3, 4)])

    def test_room(self):
        self.assertEqual([Table(0).room(), Table(0).rows()], [(0, 0), []])
        for nodes, many in ((0, 0), (1, 1), (2, 2), (3, 4), (4, 4), (5, 8), (9, 16), (64, 64), (65, 128)):
            self.assertEqual(Table(0, 3, nodes).room(), (3, many))
            self.assertEqual(Table(0, 3, nodes).rows(), [None] * many)

    def test_tables_are_not_equal(self):
        self.assertNotEqual(Table(0), Table(0))

    def test_rows_are_new(self):
        table = filled(Table(0), "a")
        table.rows().append(1)
        self.assertEqual(table.rows(), [("a", "a", None)])
        self.assertIsNot(table.rows(), table.rows())
        self.assertIsInstance(table.room(), tuple)


class MainPositionTest(unittest.TestCase):
    """Each key alone among the nodes stands at its main position."""

    def check(self, nodes, *rows):
        for key, at in rows:
            table = Table(0, 0, nodes)
            table.put(key, "v")
            self.assertEqual([row is not None for row in table.rows()].index(True), at, (key, nodes))
            self.assertEqual(table.get(key), "v")

    def test_booleans(self):
        self.check(1, (False, 0), (True, 0))
        self.check(2, (False, 0), (True, 1))
        self.check(8, (False, 0), (True, 1))

    def test_strings(self):
        # The sums: "a" 97, "b" 98, "ab" 31 * 97 + 98 = 3105, "" 0.
        self.check(4, ("a", 1), ("b", 2), ("ab", 1), ("", 0))
        self.check(8, ("a", 1), ("b", 2), ("ab", 1), ("h", 0))
        self.check(64, ("a", 33), ("ab", 33), ("ba", 31 * 98 + 97 - 48 * 64), ("~~~", (31 * (31 * 126 + 126) + 126) % 64))
        self.check(1, ("a", 0))

    def test_long_strings(self):
        total = 0
        for _ in range(1000):
            total = (31 * total + 120) % 2 ** 32
        self.check(1024, ("x" * 1000, total % 1024), ("x" * 7, model.text_sum("x" * 7) % 1024))
        self.assertGreater(31 ** 7, 2 ** 32)

    def test_integers(self):
        # Modulo 1, 1, 3, 7 and 15 for 1, 2, 4, 8 and 16 nodes.
        self.check(1, (5, 0), (-5, 0))
        self.check(2, (5, 0), (6, 0), (-5, 0))
        self.check(4, (0, 0), (1, 1), (2, 2), (3, 0), (4, 1), (GREATEST_INT, 1), (-1, 0), (-2, 2), (LEAST_INT, 2))
        self.check(8, (0, 0), (7, 0), (6, 6), (13, 6), (-1, (2 ** 64 - 1) % 7), (LEAST_INT, 2 ** 63 % 7))
        self.check(16, (14, 14), (15, 0), (-1, 0), (-15, 1), (2 ** 40, 2 ** 40 % 15))

    def test_floats_that_are_integers(self):
        self.check(8, (real(0.0), 0), (MINUS_ZERO, 0), (real(6.0), 6), (real(-1.0), (2 ** 64 - 1) % 7), (real(2.0 ** 62), 2 ** 62 % 7),
                   (Float(-1, 1, 63), 2 ** 63 % 7))

    def test_other_floats(self):
        # 0.5: 2 ** 30 and exponent 0. -0.5: 2 ** 32 - 2 ** 30, which is turned to 2 ** 30 - 1.
        self.check(4, (real(0.5), 2 ** 30 % 3), (real(-0.5), (2 ** 30 - 1) % 3), (real(1.5), (3 * 2 ** 29 + 1) % 3), (real(0.25), (2 ** 30 - 1) % 3))
        self.check(1024, (real(0.5), 2 ** 30 % 1023), (real(-0.5), (2 ** 30 - 1) % 1023), (real(2.5), (5 * 2 ** 28 + 2) % 1023),
                   (real(-2.5), (5 * 2 ** 28 - 2 - 1) % 1023), (real(5e-324), (2 ** 30 - 1073) % 1023), (Float(1, 1, 63), (2 ** 30 + 64) % 1023),
                   (BIG, (2 ** 30 + 65) % 1023), (Float(1, 2 ** 53 - 1, 971), (2 ** 31 - 1024) % 1023))

    def test_fractions_are_cut_towards_zero(self):
        # One third: 2 / 3 * 2 ** -1; 2 / 3 * 2 ** 31 is 1431655765.33.
        self.check(1024, (real(1 / 3), (1431655765 - 1) % 1023), (real(-1 / 3), (2 ** 32 - 1 - (2 ** 32 - 1431655765 - 1)) % 1023))

    def test_infinities(self):
        self.check(8, (INF, 0), (MINUS_INF, 0))

    def test_objects(self):
        self.check(8, (Table(6), 6), (Table(7), 0), (Table(13), 6), (Numbered(5), 5), (Numbered(700), 0))
        self.check(4, (Table(2), 2), (Table(3), 0))
        self.check(8, (Native("a", None), 1), (Native("print", None), model.text_sum("print") % 8), (Native("h", None), 0))

    def test_the_model_has_the_same(self):
        chance = random.Random(5)
        for _ in range(300):
            key = real(chance.choice([chance.uniform(-9, 9), chance.uniform(-1, 1) * 10.0 ** chance.randint(-300, 300), chance.random() * 2.0 ** -1040]))
            nodes = 2 ** chance.randint(0, 10)
            self.check(nodes, (key, model.main_position(key, nodes)))


class PutTest(unittest.TestCase):
    def test_places(self):
        table = Table(0, 3)
        for key, value in ((2, "b"), (1, "a"), (real(3.0), "c")):
            self.assertIsNone(table.put(key, value))
        self.assertEqual([table.get(key) for key in (0, 1, 2, 3, 4, real(1.0), real(1.5))], [None, "a", "b", "c", None, "a", None])
        self.assertEqual([table.room(), table.rows()], [(3, 0), []])
        table.put(2, None)
        self.assertEqual([table.get(2), table.room()], [None, (3, 0)])

    def test_growing_node_by_node(self):
        table = Table(0)
        steps = (
            ("a", [("a", None)]),
            ("b", [("b", None), ("a", None)]),
            ("c", [None, ("a", None), ("b", None), ("c", None)]),
            ("e", [("e", None), ("a", 0), ("b", None), ("c", None)]),
            ("d", [None, ("a", None), ("b", None), ("c", None), ("d", None), ("e", None), None, None]),
        )
        for key, expected in steps:
            table.put(key, key)
            self.assertEqual(shape(table), expected, key)
        self.assertEqual([table.get(key) for key in "abcdef"], ["a", "b", "c", "d", "e", None])

    def test_free_nodes_from_behind(self):
        table = Table(0, 0, 4)
        steps = (
            ("a", [None, ("a", None), None, None]),
            # The same main position: into the free node, linked from the elder one.
            ("e", [None, ("a", 3), None, ("e", None)]),
            # The node at 3 is a guest: it moves to the free one, and the link to it goes along.
            ("c", [None, ("a", 2), ("e", None), ("c", None)]),
            # The newest guest comes right behind the host.
            ("i", [("i", 2), ("a", 0), ("e", None), ("c", None)]),
        )
        for key, expected in steps:
            table.put(key, key)
            self.assertEqual(shape(table), expected, key)
        self.assertEqual([table.get(key) for key in "aeciq"], ["a", "e", "c", "i", None])

    def test_a_guest_that_moves_keeps_its_link(self):
        # Among 8 nodes "a", "i" and "q" have the main position 1, "n" has 6, "o" has 7.
        table = filled(Table(0, 0, 8), "a", "i", "q")
        self.assertEqual(shape(table), [None, ("a", 6), None, None, None, None, ("q", 7), ("i", None)])
        table.put("n", "n")
        self.assertEqual(shape(table), [None, ("a", 5), None, None, None, ("q", 7), ("n", None), ("i", None)])
        table.put("o", "o")
        self.assertEqual(shape(table), [None, ("a", 5), None, None, ("i", None), ("q", 4), ("n", None), ("o", None)])
        self.assertEqual([table.get(key) for key in "aiqno"], list("aiqno"))

    def test_the_free_pointer_stays_where_it_stood(self):
        table = filled(Table(0, 0, 4), "a", "e", "i")
        self.assertEqual(shape(table), [None, ("a", 2), ("i", 3), ("e", None)])
        # What loses its value is not free again; only the main position itself can take a key.
        table.put("e", None)
        table.put("m", "m")
        self.assertEqual(shape(table), [("m", 2), ("a", 0), ("i", 3), ("e", None)])
        table.put("c", "c")
        self.assertEqual(table.rows(), [("m", "m", 2), ("a", "a", 0), ("i", "i", 3), ("c", "c", None)])
        table.put("q", "q")
        self.assertEqual(table.room(), (0, 8))

    def test_a_node_without_value_keeps_its_link(self):
        table = filled(Table(0, 0, 4), "a", "e")
        table.put("a", None)
        self.assertEqual(table.rows(), [None, ("a", None, 3), None, ("e", "e", None)])
        table.put("i", 1)
        self.assertEqual(table.rows(), [None, ("i", 1, 3), None, ("e", "e", None)])
        self.assertEqual([table.get("a"), table.get("i"), table.get("e")], [None, 1, "e"])

    def test_a_guest_without_value_gives_its_node_to_its_host(self):
        table = filled(Table(0, 0, 4), "a", "e", "i")
        table.put("i", None)
        # Node 2, where "i" was, is the main position of "b", and is still linked.
        table.put("b", "b")
        self.assertEqual(table.rows(), [None, ("a", "a", 2), ("b", "b", 3), ("e", "e", None)])
        self.assertEqual([table.get(key) for key in "aeib"], ["a", "e", None, "b"])
        table.put("f", "f")
        self.assertEqual(table.rows(), [("f", "f", 3), ("a", "a", 2), ("b", "b", 0), ("e", "e", None)])
        self.assertEqual([table.get(key) for key in "aebf"], ["a", "e", "b", "f"])

    def test_taken_away_and_put_anew(self):
        table = filled(Table(0, 0, 4), "a", "e", 5)
        before = shape(table)
        table.put("e", None)
        self.assertEqual([table.get("e"), shape(table)], [None, before])
        table.put("e", 7)
        self.assertEqual([table.get("e"), shape(table)], [7, before])
        table.put("e", 8)
        self.assertEqual([table.get("e"), shape(table)], [8, before])

    def test_the_value_false(self):
        table = Table(0, 1)
        table.put(1, False)
        table.put("a", False)
        self.assertEqual([table.get(1), table.get("a"), table.rows()], [False, False, [("a", False, None)]])

    def test_equal_keys(self):
        table = Table(0, 0, 16)
        for key in (0, 1, False, True, "1", "", real(0.5), "0"):
            table.put(key, ("value", repr(key) if not isinstance(key, Float) else "half"))
        self.assertEqual([table.get(key)[1] for key in (ZERO, MINUS_ZERO, real(1.0), False, True, "1", "", real(0.5), "0")],
                         ["0", "0", "1", "False", "True", "'1'", "''", "half", "'0'"])
        self.assertEqual(len([row for row in table.rows() if row]), 8)

    def test_floats_are_kept_as_integers(self):
        table = Table(0)
        table.put(real(7.0), "a")
        table.put(MINUS_ZERO, "b")
        self.assertEqual(sorted((type(row[0]), row[0]) == (int, row[0]) for row in table.rows()), [True, True])
        self.assertEqual([table.get(7), table.get(0)], ["a", "b"])
        table.put(Float(-1, 1, 63), "c")
        self.assertEqual([table.get(LEAST_INT), table.next_after(7)[0] in (0, LEAST_INT)], ["c", True])

    def test_integers_beyond_64_bits_are_floats(self):
        table = filled(Table(0), BIG, Float(1, 1, 63), Float(-1, 3, 63))
        self.assertEqual([table.get(BIG), table.get(Float(1, 1, 63)), table.get(Float(-1, 3, 63))], [BIG, Float(1, 1, 63), Float(-1, 3, 63)])
        self.assertEqual([table.get(0), table.get(LEAST_INT), table.get(GREATEST_INT)], [None, None, None])
        self.assertTrue(all(isinstance(row[0], Float) for row in table.rows() if row))

    def test_objects_as_keys(self):
        keys = [Table(1), Table(1), Table(4), Native("a", None), Native("a", None), Numbered(1), "a", True]
        table = Table(0)
        for at, key in enumerate(keys):
            table.put(key, at)
        self.assertEqual([table.get(key) for key in keys], list(range(8)))
        self.assertIsNone(table.get(Table(1)))
        table.put(table, table)
        self.assertIs(table.get(table), table)

    def test_far_and_negative_integers(self):
        keys = [2 ** 31, 2 ** 31 + 1, 2 ** 62, GREATEST_INT, LEAST_INT, -1, 0, -(2 ** 40)]
        table = filled(Table(0), *keys)
        self.assertEqual([table.get(key) for key in keys], keys)
        self.assertEqual(table.room(), (0, 8))
        self.assertIsNone(table.get(2 ** 61))


class ThrownTest(unittest.TestCase):
    def setUp(self):
        self.table = filled(Table(0, 2), 1, "a", "b")
        self.before = (self.table.room(), self.table.rows(), self.table.get(1))

    def test_nil_and_nan(self):
        for value in (1, None, "x", False):
            self.assertEqual(thrown(self.table.put, None, value), "table index is nil")
            self.assertEqual(thrown(self.table.put, NAN, value), "table index is NaN")
            self.assertEqual((self.table.room(), self.table.rows(), self.table.get(1)), self.before)

    def test_without_nodes(self):
        table = Table(0)
        self.assertEqual([thrown(table.put, None, 1), thrown(table.put, NAN, None), table.room()], ["table index is nil", "table index is NaN", (0, 0)])

    def test_get_of_nil_and_nan(self):
        for table in (self.table, Table(0), Table(0, 3)):
            self.assertEqual([table.get(None), table.get(NAN)], [None, None])

    def test_none_for_a_new_key(self):
        for key in ("new", 77, -1, real(0.5), True, Table(3)):
            self.assertIsNone(self.table.put(key, None))
        self.assertEqual((self.table.room(), self.table.rows(), self.table.get(1)), self.before)
        table = Table(0)
        table.put("x", None)
        self.assertEqual(table.room(), (0, 0))


class GrowTest(unittest.TestCase):
    def test_the_example(self):
        table = Table(1)
        done = [table.put(key, key) for key in (1, 2, 4, "x", -1)]
        self.assertEqual(done, [None] * 5)
        self.assertEqual([table.room(), table.rows(), table.border(), table.next_after(None), table.next_after(2)],
                         [(4, 2), [("x", "x", 1), (-1, -1, None)], 4, (1, 1), (4, 4)])

    def rooms(self, *keys):
        table = Table(0)
        found = []
        for key in keys:
            table.put(key, key)
            found.append(table.room())
        self.assertEqual([table.get(key) for key in keys], list(keys))
        return found

    def test_integers_in_a_row(self):
        self.assertEqual(self.rooms(*range(1, 10)), [(1, 0), (2, 0), (4, 0), (4, 0), (8, 0), (8, 0), (8, 0), (8, 0), (16, 0)])

    def test_integers_from_behind(self):
        self.assertEqual(self.rooms(4, 3, 2, 1), [(0, 1), (0, 2), (4, 0), (4, 0)])
        self.assertEqual(self.rooms(2, 1), [(0, 1), (2, 0)])

    def test_more_than_half(self):
        # 1 and 3 are just half of 1 to 4, so 3 gets a node.
        self.assertEqual(self.rooms(1, 3), [(1, 0), (1, 1)])
        self.assertEqual(self.rooms(1, 3, 2), [(1, 0), (1, 1), (4, 0)])
        self.assertEqual(self.rooms(1, 2, 8, 7), [(1, 0), (2, 0), (2, 1), (2, 2)])
        self.assertEqual(self.rooms(1, 2, 8, 7, 6), [(1, 0), (2, 0), (2, 1), (2, 2), (8, 0)])

    def test_with_other_keys(self):
        self.assertEqual(self.rooms("a", 1, 2, "b", True), [(0, 1), (1, 1), (2, 1), (2, 2), (2, 4)])
        self.assertEqual(self.rooms(0, -1, real(0.5), 1), [(0, 1), (0, 2), (0, 4), (0, 4)])

    def test_floats_count_as_integers(self):
        self.assertEqual(self.rooms(real(1.0), real(2.0), real(3.0)), [(1, 0), (2, 0), (4, 0)])

    def test_true_is_not_one(self):
        self.assertEqual(self.rooms(True, False), [(0, 1), (0, 2)])

    def test_values_taken_away_ahead_of_growing(self):
        table = filled(Table(0), "a", "b", "c", "d")
        self.assertEqual(table.room(), (0, 4))
        for key in "abc":
            table.put(key, None)
        table.put("h", 1)
        # No node is unused, so the table is made anew, for "d" and "h" alone.
        self.assertEqual([table.room(), shape(table)], [(0, 2), [("d", 1), ("h", None)]])
        self.assertEqual([table.get(key) for key in "abcdh"], [None, None, None, "d", 1])
        table = filled(Table(0), 1, 2, 3, 4)
        for key in (1, 2, 3):
            table.put(key, None)
        table.put("x", "x")
        # Of 1 to 4 only 4 has a value: it gets a node as well.
        self.assertEqual([table.room(), table.get(4), table.get("x")], [(0, 2), 4, "x"])

    def test_growing_to_less(self):
        table = filled(Table(0, 0, 4), "a", "e", "i", "m")
        for key in "eim":
            table.put(key, None)
        table.put("q", "q")
        self.assertEqual([table.room(), shape(table)], [(0, 2), [("q", None), ("a", 0)]])

    def test_places_of_any_number(self):
        table = filled(Table(0, 3), 1, 2, 3)
        self.assertEqual(table.room(), (3, 0))
        table.put("x", 1)
        self.assertEqual(table.room(), (4, 1))
        table = Table(0, 10)
        table.put(10, "ten")
        table.put(1, "one")
        table.put("x", "x")
        self.assertEqual([table.room(), table.get(10), table.get(1), table.get("x")], [(1, 2), "ten", "one", "x"])

    def test_nodes_ahead_of_places(self):
        # While there are nodes, integers go there; what grows takes them into places.
        table = filled(Table(0, 0, 4), 1, 2, 3)
        self.assertEqual([table.room(), shape(table)], [(0, 4), [(3, None), (1, None), (2, None), None]])
        table.put(4, 4)
        self.assertEqual(shape(table), [(3, None), (1, 3), (2, None), (4, None)])
        table.put(5, 5)
        self.assertEqual(table.room(), (8, 0))

    def test_order_of_putting_anew(self):
        # Places beyond come first, ascending, then the nodes from 0 on.
        table = filled(Table(0, 4), 2, 4)
        table.put("b", "b")
        self.assertEqual([table.room(), shape(table)], [(0, 4), [None, (4, None), (2, 3), ("b", None)]])

    def test_no_places_beyond_two_to_31(self):
        self.assertEqual(self.rooms(2 ** 31, 2 ** 32), [(0, 1), (0, 2)])


class MakeRoomTest(unittest.TestCase):
    def test_empty(self):
        table = Table(0)
        self.assertIsNone(table.make_room(5))
        self.assertEqual([table.room(), table.rows()], [(5, 0), []])
        table.make_room(3)
        table.make_room(5)
        self.assertEqual(table.room(), (5, 0))
        Table(0).make_room(0)

    def test_nodes_are_made_anew(self):
        table = filled(Table(0, 0, 4), 1, 2, "a", "e")
        table.put("a", None)
        table.make_room(2)
        self.assertEqual([table.room(), shape(table)], [(2, 4), [None, ("e", None), None, None]])
        self.assertEqual([table.get(key) for key in (1, 2, "a", "e")], [1, 2, None, "e"])

    def test_less_room_changes_nothing(self):
        table = filled(Table(0, 2, 4), "a", "e")
        table.put("e", None)
        before = table.rows()
        table.make_room(2)
        self.assertEqual(table.rows(), before)
        table.make_room(3)
        self.assertEqual(shape(table), [None, ("a", None), None, None])

    def test_room_is_kept_by_nodes_alone(self):
        table = filled(Table(0), 1)
        table.make_room(100)
        self.assertEqual([table.room(), table.get(1), table.get(100)], [(100, 0), 1, None])
        table.put(100, "x")
        self.assertEqual(table.get(100), "x")


class ModelTest(unittest.TestCase):
    """Many steps by chance, in the table and in the model."""

    def keys(self, chance):
        objects = [Table(number) for number in range(4)] + [Native(word, None) for word in ("print", "a", "next")]
        kinds = [
            list(range(-3, 20)),
            [real(value) for value in (0.0, 1.0, 2.0, 3.0, 0.5, -0.5, 1.5, 1e300, -1e-300, 2.0 ** 64, 2.0 ** 63)] + [INF, MINUS_INF],
            ["a", "b", "c", "e", "i", "m", "", "longer", "ab"],
            [2 ** 40, GREATEST_INT, LEAST_INT, 2 ** 31, 64, 63, 65],
            [True, False] + objects,
        ]
        chosen = chance.sample(kinds, chance.randint(1, 5))
        return [key for kind in chosen for key in kind]

    def test_many_steps(self):
        for seed in range(250):
            chance = random.Random(seed)
            sizes = chance.choice([(0, 0), (0, 0), (4, 0), (0, 4), (3, 5), (8, 1)])
            table = Table(9, *sizes)
            other = model.new(*sizes)
            keys = self.keys(chance)
            for _ in range(chance.randint(5, 60)):
                if chance.random() < 0.04:
                    count = chance.randint(0, 20)
                    table.make_room(count)
                    model.make_room(other, count)
                else:
                    key = chance.choice(keys)
                    value = chance.choice([None, 1, "v", False, 2])
                    table.put(key, value)
                    model.put(other, key, value)
                self.assertEqual(table.room(), model.room(other), seed)
                self.assertEqual(table.rows(), model.rows(other), seed)
                self.assertEqual(table.border(), model.border(other), seed)
            self.assertEqual([table.get(key) for key in keys], [model.get(other, key) for key in keys])
            self.check_walk(table, model.walk(other))

    def check_walk(self, table, expected):
        found = []
        step = table.next_after(None)
        while step is not None:
            found.append(step)
            step = table.next_after(step[0])
        self.assertEqual(found, expected)


if __name__ == "__main__":
    unittest.main()
