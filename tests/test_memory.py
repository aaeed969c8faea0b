"""[56], [57]: what is reached, and what a collection lets go."""

import random
import unittest

import model_memory
from builders import thrown
from upvalues import memory
from upvalues.code import Code
from upvalues.errors import InvalidArgument
from upvalues.memory import reached, swept
from upvalues.numbers import Float
from upvalues.objects import Native
from upvalues.tables import Table

NO_LISTS = [None, True, 5, 1.5, "x", b"x", {}, set(), frozenset(), range(3), Table(1), Native("f", None), Float(1, 1, 0),
            Code(0, False, 0, [], [], [], []), InvalidArgument("x"), type, (i for i in ())]


class Heap:
    """Tables by their numbers, made when they are named."""

    def __init__(self):
        self.tables = {}

    def __getitem__(self, number):
        return self.tables.setdefault(number, Table(number))

    def put(self, number, key, value):
        """Puts a table into another one; a key or a value that is an integer in a list is a table."""
        named = lambda thing: self[thing[0]] if isinstance(thing, list) else thing
        self[number].put(named(key), named(value))
        return self

    def mode(self, number, mode):
        one = self[number]
        one.meta = Table(1000 + number)
        one.meta.put("__mode", mode)
        return self

    def numbers(self, *roots):
        """The numbers of the tables below 1000 that are reached."""
        return [number for kind, number in reached([self[root] for root in roots]) if number < 1000]

    def keys(self, number):
        """The keys that have a value, tables by their numbers."""
        found = []
        one = self[number].next_after(None)
        while one is not None:
            found.append(one[0].number if isinstance(one[0], Table) else one[0])
            one = self[number].next_after(one[0])
        return found


def invalid(act, *args):
    try:
        act(*args)
    except InvalidArgument as found:
        return found.part
    return None


class ReachedTest(unittest.TestCase):
    def test_values_that_are_no_objects(self):
        self.assertEqual(reached([None, True, 5, "x", Float(1, 1, 0), Native("f", None)]), [])
        self.assertEqual(reached(()), [])
        self.assertEqual(reached(values=[]), [])

    def test_it_is_told_ascending_and_once(self):
        heap = Heap()
        self.assertEqual(reached([heap[5], heap[3], heap[11], heap[3]]), [("table", 3), ("table", 5), ("table", 11)])
        self.assertEqual(reached((heap[5],)), [("table", 5)])

    def test_keys_values_and_metatables(self):
        heap = Heap().put(0, 1, [1]).put(0, "x", [2]).put(0, [3], 5).put(3, [4], [5]).put(6, 1, [0])
        heap[5].meta = heap[7]
        self.assertEqual(heap.numbers(0), [0, 1, 2, 3, 4, 5, 7])
        self.assertEqual(heap.numbers(6), [0, 1, 2, 3, 4, 5, 6, 7])
        self.assertEqual(heap.numbers(4), [4])

    def test_what_was_taken_away(self):
        heap = Heap().put(0, "x", [1]).put(0, [2], 5).put(0, "x", None).put(0, [2], None)
        self.assertEqual(heap.numbers(0), [0])

    def test_rings(self):
        heap = Heap().put(0, 1, [1]).put(1, "up", [0]).put(1, [1], [1])
        heap[1].meta = heap[1]
        self.assertEqual(heap.numbers(1), [0, 1])

    def test_weak_values(self):
        heap = Heap().put(0, 1, [1]).put(0, "x", [2]).put(0, [3], [4]).mode(0, "v")
        self.assertEqual(heap.numbers(0), [0, 3])
        self.assertIn(("table", 1000), reached([heap[0]]))

    def test_weak_keys(self):
        heap = Heap().put(0, 1, [1]).put(0, "x", [2]).put(0, [3], [4]).put(0, True, [5]).put(0, [6], [7]).put(2, 1, [6]).mode(0, "k")
        self.assertEqual(heap.numbers(0), [0, 1, 2, 5, 6, 7])
        self.assertEqual(heap.numbers(0, 3), [0, 1, 2, 3, 4, 5, 6, 7])

    def test_both_weak(self):
        for mode in ("kv", "vk", "x kv!"):
            heap = Heap().put(0, 1, [1]).put(0, "x", [2]).put(0, [3], [4]).mode(0, mode)
            self.assertEqual(heap.numbers(0, 3), [0, 3])

    def test_other_modes_are_none(self):
        for mode in ("", "K", "x", 5, True, Table(900)):
            heap = Heap().put(0, 1, [1]).put(0, [3], [4]).mode(0, mode)
            self.assertEqual(heap.numbers(0)[:4], [0, 1, 3, 4])
        heap = Heap().put(0, 1, [1])
        heap[0].meta = Table(1000)
        heap[0].meta.meta = Table(1001)
        heap[0].meta.meta.put("__index", Heap().mode(5, "v")[5].meta)
        self.assertIn(1, heap.numbers(0))

    def test_the_mode_of_this_moment(self):
        heap = Heap().put(0, 1, [1]).mode(0, "v")
        self.assertEqual(heap.numbers(0), [0])
        heap[0].meta.put("__mode", "k")
        self.assertEqual(heap.numbers(0), [0, 1])

    def test_a_value_that_only_its_own_key_reaches(self):
        heap = Heap().put(0, [1], [2]).put(2, "key", [1]).mode(0, "k")
        self.assertEqual(heap.numbers(0), [0])
        heap = Heap().put(0, [1], [1]).mode(0, "k")
        self.assertEqual(heap.numbers(0), [0])

    def test_keys_that_are_reached_later(self):
        heap = Heap().mode(0, "k")
        for number in range(1, 20):
            heap.put(0, [number], [number + 1])
        self.assertEqual(heap.numbers(0, 19), [0, 19, 20])
        self.assertEqual(heap.numbers(0, 1), list(range(21)))

    def test_long_chains(self):
        heap = Heap().mode(0, "k")
        for number in range(1, 4000):
            heap.put(number, "next" if number % 2 else 1, [number + 1])
            heap.put(0, [5000 + number + 1], [5000 + number])
        self.assertEqual(len(reached([heap[1]])), 4000)
        self.assertEqual(len(reached([heap[0], heap[9000]])), 4000 + 1 + 1)
        heap = Heap().mode(0, "k").mode(1, "k")
        for number in range(2, 3000):
            heap.put(number % 2, [number], [number + 1])
        self.assertEqual(len(reached([heap[0], heap[1], heap[2]])), 3001 + 2)

    def test_wrong_arguments(self):
        for thing in NO_LISTS:
            self.assertEqual(invalid(reached, thing), "values")

    def test_nothing_is_changed(self):
        heap = Heap().put(0, 1, [1]).mode(0, "v")
        values = [heap[0]]
        reached(values)
        self.assertEqual((values, heap.keys(0)), ([heap[0]], [1]))


class SweptTest(unittest.TestCase):
    def test_weak_values(self):
        heap = Heap().put(0, 1, [1]).put(0, 2, [2]).put(0, "x", [3]).put(0, "y", [4]).put(0, 3, 7).put(0, "s", "text").mode(0, "v")
        self.assertEqual(swept([heap[0], heap[2], heap[4]], []), [])
        self.assertEqual(sorted(map(str, heap.keys(0))), ["2", "3", "s", "y"])

    def test_weak_keys(self):
        heap = Heap().put(0, [1], 1).put(0, [2], 2).put(0, "x", 3).put(0, 1, [5]).mode(0, "k")
        self.assertEqual(swept([heap[0], heap[2]], []), [])
        self.assertEqual(sorted(map(str, heap.keys(0))), ["1", "2", "x"])

    def test_both(self):
        heap = Heap().put(0, [1], [2]).put(0, [3], [4]).put(0, [5], [6]).mode(0, "kv")
        swept([heap[0], heap[1], heap[2], heap[3], heap[6]], [])
        self.assertEqual(heap.keys(0), [1])

    def test_tables_that_are_not_reached_stay_as_they_are(self):
        heap = Heap().put(0, 1, [1]).mode(0, "v")
        swept([], [])
        self.assertEqual(heap.keys(0), [1])

    def test_native_functions_strings_and_numbers_stay(self):
        heap = Heap().mode(0, "kv")
        keys = ["x", 5, 2 ** 60, True, Float(1, 1, -1), Native("f", None)]
        for key in keys:
            heap[0].put(key, key)
        swept([heap[0]], [])
        self.assertEqual(len(heap.keys(0)), 6)

    def test_the_order_of_those_to_be_finished(self):
        heap = Heap().put(0, 1, [2])
        marked = [heap[1], heap[2], heap[3], heap[4]]
        self.assertEqual(swept([heap[0]], marked), [heap[4], heap[3], heap[1]])
        self.assertEqual(marked, [heap[1], heap[2], heap[3], heap[4]])
        self.assertEqual(swept(values=(heap[1],), marked=(heap[1], heap[2])), [heap[2]])

    def test_a_table_to_be_finished_leaves_weak_values_but_is_a_weak_key(self):
        heap = Heap().put(0, 1, [1]).mode(0, "v").put(2, [1], "held").mode(2, "k").put(3, [1], [4]).mode(3, "k")
        self.assertEqual(swept([heap[0], heap[2], heap[3]], [heap[1]]), [heap[1]])
        self.assertEqual((heap.keys(0), heap.keys(2), heap.keys(3)), ([], [1], [1]))
        # Now nothing holds it any more.
        self.assertEqual(swept([heap[0], heap[2], heap[3]], []), [])
        self.assertEqual((heap.keys(2), heap.keys(3)), ([], []))

    def test_what_a_finished_table_reaches(self):
        heap = Heap().put(1, "child", [2]).put(0, 1, [2]).mode(0, "v").put(3, [2], 1).mode(3, "k")
        self.assertEqual(swept([heap[0], heap[3]], [heap[1], heap[2]]), [heap[2], heap[1]])
        self.assertEqual((heap.keys(0), heap.keys(3)), ([], [2]))

    def test_weak_tables_that_only_finished_ones_reach(self):
        # 1 is finished, and leads to 2, which is not in M: its weak values are asked in the third step, by N.
        heap = Heap().put(1, "w", [2]).put(2, 1, [3]).put(2, 2, [1]).put(2, 3, [4]).put(1, "v", [4]).mode(2, "v")
        self.assertEqual(swept([], [heap[1]]), [heap[1]])
        self.assertEqual(heap.keys(2), [2, 3])

    def test_what_only_an_entry_reached_that_lost_its_value(self):
        # The key 1 of the table 0 with weak values is reached as long as its entry has a value.
        heap = Heap().put(0, [1], [2]).mode(0, "v").put(3, [1], "held").mode(3, "k")
        swept([heap[0], heap[3]], [])
        self.assertEqual((heap.keys(0), heap.keys(3)), ([], []))
        heap = Heap().put(0, [1], [2]).mode(0, "v").put(3, 1, [1]).mode(3, "v")
        swept([heap[0], heap[3]], [])
        # It is in M, so that it has not left weak values yet.
        self.assertEqual((heap.keys(0), heap.keys(3)), ([], [1]))
        swept([heap[0], heap[3]], [])
        self.assertEqual(heap.keys(3), [])

    def test_dead_nodes(self):
        heap = Heap()
        one = heap[0]
        for key in ("x", 5000, True, 2 ** 40, Float(1, 1, -1), heap[1], Native("f", None)):
            one.put(key, 1)
        for key in ("x", 5000, True, 2 ** 40, Float(1, 1, -1), heap[1]):
            one.put(key, None)
        swept([one], [])
        dead = {str(model_memory.name(node.key)) for node in one.nodes if node is not None and node.is_dead}
        self.assertEqual(dead, {"x", str(("table", 1))})
        self.assertEqual(one.next_after("x"), one.next_after("x"))
        self.assertIsNone(thrown(one.next_after, "x"))
        self.assertIsNone(one.get("x"))

    def test_a_dead_node_is_not_found_by_put(self):
        # The keys a and e share the main position 1.
        one = Table(0, 0, 4)
        one.put("a", 1)
        one.put("e", 2)
        one.put("e", None)
        self.assertEqual(one.rows(), [None, ("a", 1, 3), None, ("e", None, None)])
        swept([one], [])
        self.assertIsNone(one.get("e"))
        one.put("e", 3)
        self.assertEqual(one.rows(), [None, ("a", 1, 2), ("e", 3, 3), ("e", None, None)])
        self.assertEqual((one.get("e"), one.next_after("a"), one.next_after("e")), (3, ("e", 3), None))

    def test_a_dead_node_is_used_anew(self):
        one = Table(0, 0, 1)
        one.put("a", 1)
        one.put("a", None)
        swept([one], [])
        one.put("b", 2)
        self.assertEqual((one.rows(), one.get("b")), ([("b", 2, None)], 2))

    def test_nodes_of_tables_that_are_not_reached_do_not_die(self):
        one = Table(0, 0, 1)
        one.put("x", 1)
        one.put("x", None)
        swept([], [])
        self.assertFalse(one.nodes[0].is_dead)
        swept([], [one])
        self.assertTrue(one.nodes[0].is_dead)

    def test_a_second_collection_takes_nothing(self):
        heap = Heap().put(0, [1], [2]).put(0, 1, [3]).mode(0, "v").put(0, [4], [0])
        swept([heap[0]], [])
        found = model_memory.image(heap.tables.values())
        swept([heap[0]], [])
        self.assertEqual(model_memory.image(heap.tables.values()), found)

    def test_long_chains(self):
        heap = Heap().mode(0, "k")
        for number in range(1, 3000):
            heap.put(0, [number], [number + 1])
        swept([heap[0], heap[1500]], [heap[1]])
        self.assertEqual(len(heap.keys(0)), 2999)
        swept([heap[0], heap[1500]], [])
        self.assertEqual(sorted(heap.keys(0)), list(range(1500, 3000)))

    def test_wrong_arguments(self):
        for thing in NO_LISTS:
            self.assertEqual(invalid(swept, thing, []), "values")
            self.assertEqual(invalid(swept, thing, thing), "values")
            self.assertEqual(invalid(swept, [], thing), "marked")
            if not isinstance(thing, Table):
                self.assertEqual(invalid(swept, [], [Table(1), thing]), "marked")
        self.assertIsNone(invalid(swept, ["x", 5, None], [Table(1)]))

    def test_nothing_happens_for_wrong_arguments(self):
        heap = Heap().put(0, 1, [1]).mode(0, "v")
        self.assertEqual(invalid(swept, [heap[0]], [5]), "marked")
        self.assertEqual(heap.keys(0), [1])

    def test_the_functions_stand_in_their_module(self):
        self.assertEqual((memory.reached.__module__, memory.swept.__module__), ("upvalues.memory", "upvalues.memory"))


def some_heap(chance):
    """Some tables that hold one another, with modes and taken entries."""
    tables = [Table(number, chance.randint(0, 3), chance.randint(0, 3)) for number in range(chance.randint(1, 9))]
    pick = lambda: chance.choice(tables + [1, 2, 3, "x", "y", True])
    for _ in range(chance.randint(0, 25)):
        chance.choice(tables).put(pick(), chance.choice([pick(), pick(), pick(), None]))
    for table in tables:
        if chance.random() < 0.5:
            table.meta = chance.choice(tables)
            if chance.random() < 0.8:
                table.meta = Table(100 + table.number)
                table.meta.put("__mode", chance.choice(["k", "v", "kv", "k", "v", 5]))
    return tables


class ManyHeapsTest(unittest.TestCase):
    def test_many_heaps(self):
        finished = 0
        for seed in range(3000):
            rows = []
            for act in (swept, model_memory.collected):
                chance = random.Random(seed)
                tables = some_heap(chance)
                values = [one for one in tables if chance.random() < 0.25]
                marked = [one for one in tables if chance.random() < 0.4]
                chance.shuffle(marked)
                self.assertEqual(reached(values), model_memory.told(values))
                found = [[one.number for one in act(values, marked)], model_memory.image(tables)]
                finished += len(found[0])
                found.append([one.number for one in act(values, marked[:2])])
                rows.append(found + [model_memory.image(tables)])
            self.assertEqual(rows[0], rows[1], seed)
        self.assertGreater(finished, 1000)


if __name__ == "__main__":
    unittest.main()
