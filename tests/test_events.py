"""[26] to [31]: what operators, indexes and calls come to, each function of events by itself."""

import unittest

from builders import INF, MINUS_ZERO, NAN, real, thrown
from upvalues import events
from upvalues.events import (
    arith_deed, binary_deed, call_target, concat_deed, equal_deed, index_deed, is_closable, length_deed, less_deed, meta_of, set_meta, shaped,
    store_deed, told_meta, unary_deed, unlike_deed)
from upvalues.numbers import Float
from upvalues.objects import Native
from upvalues.tables import Table

F = Native("f", None)
G = Native("g", None)
ARITH = {"add": "__add", "sub": "__sub", "mul": "__mul", "div": "__div", "floor": "__idiv", "mod": "__mod"}
BITS = {"band": "__band", "bor": "__bor", "bxor": "__bxor", "shl": "__shl", "shr": "__shr"}
# A value of each kind that can be made here, and no number, string or table.
OTHERS = [(None, "nil"), (True, "boolean"), (False, "boolean"), (F, "function")]


def table(**fields):
    """A table with a metatable that has the given events."""
    found = Table(1)
    found.meta = Table(2)
    for name, value in fields.items():
        found.meta.put("__" + name, value)
    return found


def chain(many, event, last=None):
    """The first of so many tables, of which each has the next one as its event."""
    found = last
    for number in range(many):
        one = Table(number)
        if found is not None:
            one.meta = Table(number)
            one.meta.put(event, found)
        found = one
    return found


class EventsCase(unittest.TestCase):
    def throws(self, text, act, *args):
        self.assertEqual(thrown(act, *args), text)


class MetaTest(EventsCase):
    def test_values_without_a_metatable(self):
        for value in (None, True, 1, INF, "x", F, Table(1)):
            self.assertIsNone(meta_of(value, "__add"))
        self.assertIsNone(meta_of(table(), "__add"))

    def test_the_field_as_it_lies(self):
        one = table(add=F, sub=False)
        self.assertIs(meta_of(one, "__add"), F)
        self.assertIs(meta_of(one, "__sub"), False)
        self.assertIsNone(meta_of(one, "__mul"))
        self.assertIs(meta_of(value=one, name="__add"), F)

    def test_a_metatable_of_the_metatable_plays_no_part(self):
        one = table()
        one.meta.meta = Table(3)
        one.meta.meta.put("__index", one)
        one.put("__add", F)
        self.assertIsNone(meta_of(one, "__add"))

    def test_a_table_may_be_its_own_metatable(self):
        one = Table(1)
        one.meta = one
        one.put("__add", G)
        self.assertEqual(arith_deed("add", one, 1), ("call", G, [one, 1], "one"))

    def test_it_is_read_when_it_is_needed(self):
        one = table(add=F)
        one.meta.put("__add", G)
        self.assertIs(meta_of(one, "__add"), G)

    def test_shapes(self):
        self.assertEqual([shaped(values, "one") for values in ([], [5], [None, 5], [False, 1])], [None, 5, None, False])
        self.assertEqual([shaped(values, "truth") for values in ([], [5], [None], [False], [0], [""])], [False, True, False, False, True, True])
        self.assertEqual([shaped(values, "untrue") for values in ([], [5], [None], [False], [0])], [True, False, True, True, False])
        self.assertEqual([shaped(values, "none") for values in ([], [5, 6])], [None, None])
        self.assertIs(shaped(values=[1], shape="truth"), True)


class IndexTest(EventsCase):
    def test_a_table(self):
        one = Table(1)
        one.put("k", 5)
        self.assertEqual(index_deed(one, "k"), ("value", 5))
        for key in ("x", None, NAN, 1, True, one):
            self.assertEqual(index_deed(one, key), ("value", None))
        self.assertEqual(index_deed(thing=one, key="k"), ("value", 5))

    def test_no_table(self):
        for value, kind in OTHERS + [(1, "number"), (INF, "number"), ("x", "string")]:
            self.throws(f"attempt to index a {kind} value", index_deed, value, "k")
            self.throws(f"attempt to index a {kind} value", store_deed, value, "k", 1)
            self.throws(f"attempt to index a {kind} value", index_deed, table(index=value) if value not in (None, F) else value, "k")

    def test_the_event(self):
        one = table(index=F)
        self.assertEqual(index_deed(one, "k"), ("call", F, [one, "k"], "one"))
        one.put("k", False)
        self.assertEqual(index_deed(one, "k"), ("value", False))
        other = table(index=one)
        self.assertEqual(index_deed(other, "k"), ("value", False))
        self.assertEqual(index_deed(other, "x"), ("call", F, [one, "x"], "one"))

    def test_an_event_that_can_be_called_is_read_from(self):
        holder = table(call=F)
        holder.put("k", 7)
        self.assertEqual(index_deed(table(index=holder), "k"), ("value", 7))
        self.assertEqual(index_deed(table(index=holder), "x"), ("value", None))

    def test_chains(self):
        self.assertEqual(index_deed(chain(2000, "__index"), "k"), ("value", None))
        text = "'__index' chain too long; possibly a loop"
        self.throws(text, index_deed, chain(2001, "__index"), "k")
        last = Table(5)
        last.put("k", 1)
        self.assertEqual(index_deed(chain(1999, "__index", last), "k"), ("value", 1))
        self.throws(text, index_deed, chain(2000, "__index", last), "k")
        self.assertEqual(index_deed(chain(2000, "__index", F), "k")[:2], ("call", F))
        self.throws("attempt to index a number value", index_deed, chain(1999, "__index", 5), "k")
        self.throws(text, index_deed, chain(2000, "__index", 5), "k")

    def test_rings(self):
        one = Table(1)
        one.meta = one
        one.put("__index", one)
        one.put("__newindex", one)
        self.throws("'__index' chain too long; possibly a loop", index_deed, one, "k")
        self.throws("'__newindex' chain too long; possibly a loop", store_deed, one, "k", 1)


class StoreTest(EventsCase):
    def test_a_table(self):
        one = Table(1)
        self.assertEqual(store_deed(one, "k", 5), ("value", None))
        self.assertEqual(one.get("k"), 5)
        self.assertEqual(store_deed(thing=one, key="k", value=None), ("value", None))
        self.assertIsNone(one.get("k"))

    def test_keys_that_cannot_be(self):
        self.throws("table index is nil", store_deed, Table(1), None, 1)
        self.throws("table index is NaN", store_deed, Table(1), NAN, 1)
        self.throws("table index is nil", store_deed, table(newindex=Table(3)), None, 1)
        one = table(newindex=F)
        self.assertEqual(store_deed(one, None, 1), ("call", F, [one, None, 1], "none"))

    def test_the_event(self):
        one = table(newindex=F)
        self.assertEqual(store_deed(one, "k", 5), ("call", F, [one, "k", 5], "none"))
        self.assertIsNone(one.get("k"))
        one.put("k", 1)
        self.assertEqual(store_deed(one, "k", 5), ("value", None))
        self.assertEqual(one.get("k"), 5)

    def test_the_next_table(self):
        last = table(call=F)
        one = table(newindex=last)
        self.assertEqual(store_deed(one, "k", 5), ("value", None))
        self.assertEqual((one.get("k"), last.get("k")), (None, 5))
        self.throws("attempt to index a boolean value", store_deed, table(newindex=True), "k", 5)

    def test_chains(self):
        last = Table(9)
        store_deed(chain(1999, "__newindex", last), "k", 5)
        self.assertEqual(last.get("k"), 5)
        text = "'__newindex' chain too long; possibly a loop"
        self.throws(text, store_deed, chain(2000, "__newindex", last), "x", 5)
        self.assertIsNone(last.get("x"))
        self.assertEqual(store_deed(chain(2000, "__newindex", F), "k", 5)[1], F)
        self.throws(text, store_deed, chain(2001, "__newindex", F), "k", 5)


class ArithTest(EventsCase):
    def test_numbers(self):
        self.assertEqual(arith_deed("add", 2 ** 63 - 1, 1), ("value", -2 ** 63))
        self.assertEqual(arith_deed("div", 1, 2), ("value", real(0.5)))
        self.assertEqual(arith_deed("floor", 7, real(2.0)), ("value", real(3.0)))
        self.assertEqual(arith_deed("shl", 1, real(4.0)), ("value", 16))
        self.assertEqual(arith_deed(word="mod", one=-5, other=3), ("value", 1))
        self.throws("attempt to perform 'n//0'", arith_deed, "floor", 1, 0)
        self.throws("attempt to perform 'n mod 0'", arith_deed, "mod", 1, 0)
        self.throws("number has no integer representation", arith_deed, "band", 1, real(0.5))
        self.throws("number has no integer representation", arith_deed, "shr", INF, 1)

    def test_each_event(self):
        for word, name in list(ARITH.items()) + list(BITS.items()):
            one = table(**{name[2:]: F})
            other = table(**{name[2:]: G})
            for act in (arith_deed, binary_deed):
                self.assertEqual(act(word, one, other), ("call", F, [one, other], "one"))
                self.assertEqual(act(word, 1, other), ("call", G, [1, other], "one"))
                self.assertEqual(act(word, one, None), ("call", F, [one, None], "one"))
                self.assertEqual(act(word, "x", one), ("call", F, ["x", one], "one"))
                self.assertEqual(act(word, table(), one)[1], F)

    def test_an_event_of_another_name_is_none(self):
        for word, name in list(ARITH.items()) + list(BITS.items()):
            others = {other[2:]: F for other in list(ARITH.values()) + list(BITS.values()) if other != name}
            self.assertIsNotNone(thrown(arith_deed, word, table(**others), 1))

    def test_any_value_may_be_an_event(self):
        one = table(add=5, sub=False, mul=Table(8))
        self.assertEqual(arith_deed("add", one, 1), ("call", 5, [one, 1], "one"))
        self.assertEqual(arith_deed("sub", 1, one), ("call", False, [1, one], "one"))
        self.assertEqual(arith_deed("mul", 1, one)[1].number, 8)

    def test_errors(self):
        for word in ARITH:
            self.throws("attempt to perform arithmetic on a table value", arith_deed, word, 1, Table(1))
            self.throws("attempt to perform arithmetic on a nil value", arith_deed, word, None, Table(1))
            self.throws("attempt to perform arithmetic on a string value", arith_deed, word, "1", 2)
            self.throws("attempt to perform arithmetic on a string value", arith_deed, word, real(0.5), "1")
            self.throws("attempt to perform arithmetic on a boolean value", arith_deed, word, True, 2)
        for word in BITS:
            self.throws("attempt to perform bitwise operation on a table value", arith_deed, word, 1, Table(1))
            self.throws("attempt to perform bitwise operation on a string value", arith_deed, word, "1", None)
            self.throws("attempt to perform bitwise operation on a nil value", arith_deed, word, real(0.5), None)

    def test_the_example(self):
        self.throws("attempt to perform arithmetic on a table value", arith_deed, "add", 1, Table(1))


class UnaryTest(EventsCase):
    def test_numbers(self):
        self.assertEqual(unary_deed("neg", 5), ("value", -5))
        self.assertEqual(unary_deed("neg", -2 ** 63), ("value", -2 ** 63))
        self.assertEqual(unary_deed("neg", real(0.0)), ("value", MINUS_ZERO))
        self.assertEqual(unary_deed("bnot", real(2.0)), ("value", -3))
        self.assertEqual(unary_deed(word="neg", one=1), ("value", -1))
        self.throws("number has no integer representation", unary_deed, "bnot", real(0.5))

    def test_events(self):
        one = table(unm=F, bnot=G)
        self.assertEqual(unary_deed("neg", one), ("call", F, [one, one], "one"))
        self.assertEqual(unary_deed("bnot", one), ("call", G, [one, one], "one"))

    def test_errors(self):
        for value, kind in OTHERS + [("x", "string"), (Table(1), "table")]:
            self.throws(f"attempt to perform arithmetic on a {kind} value", unary_deed, "neg", value)
            self.throws(f"attempt to perform bitwise operation on a {kind} value", unary_deed, "bnot", value)


class ConcatTest(EventsCase):
    def test_strings_and_numbers(self):
        self.assertEqual(concat_deed("a", "b"), ("value", "ab"))
        self.assertEqual(concat_deed(1, 2), ("value", "12"))
        self.assertEqual(concat_deed(one="x", other=real(0.5)), ("value", "x0.5"))
        self.assertEqual(concat_deed(NAN, real(10.0 ** 15)), ("value", "nan1e+15"))
        self.assertEqual(binary_deed("concat", "", ""), ("value", ""))

    def test_lengths(self):
        self.assertEqual(concat_deed("x" * 99999, 1), ("value", "x" * 99999 + "1"))
        self.throws("string length overflow", concat_deed, "x" * 99999, 12)
        self.throws("string length overflow", concat_deed, "x", "y" * 100000)

    def test_events(self):
        one = table(concat=F)
        other = table(concat=G)
        self.assertEqual(concat_deed(one, other), ("call", F, [one, other], "one"))
        self.assertEqual(concat_deed("x", other), ("call", G, ["x", other], "one"))
        self.assertEqual(concat_deed(None, other), ("call", G, [None, other], "one"))
        self.assertEqual(concat_deed(one, 5), ("call", F, [one, 5], "one"))

    def test_errors(self):
        for value, kind in OTHERS + [(Table(1), "table")]:
            for good in ("x", 5, INF):
                self.throws(f"attempt to concatenate a {kind} value", concat_deed, value, good)
                self.throws(f"attempt to concatenate a {kind} value", concat_deed, good, value)
        self.throws("attempt to concatenate a nil value", concat_deed, None, Table(1))
        self.throws("attempt to concatenate a table value", concat_deed, Table(1), None)


class LengthTest(EventsCase):
    def test_strings_and_tables(self):
        self.assertEqual([length_deed(text) for text in ("", "abc")], [("value", 0), ("value", 3)])
        one = Table(1)
        for key in (1, 2, 3):
            one.put(key, key)
        self.assertEqual(length_deed(one), ("value", 3))
        self.assertEqual(length_deed(one=table()), ("value", 0))

    def test_the_event(self):
        one = table(len=F)
        self.assertEqual(length_deed(one), ("call", F, [one, one], "one"))

    def test_errors(self):
        for value, kind in OTHERS + [(5, "number"), (NAN, "number")]:
            self.throws(f"attempt to get length of a {kind} value", length_deed, value)


class EqualTest(EventsCase):
    def test_values(self):
        one, other = Table(1), Table(1)
        rows = [(1, 1, True), (1, real(1.0), True), (1, 2, False), (real(0.0), MINUS_ZERO, True), (NAN, NAN, False), (1, True, False),
                (0, False, False), ("1", 1, False), ("a", "a", True), (None, None, True), (None, False, False), (one, one, True), (one, other, False),
                (F, F, True), (F, G, False), (one, F, False), (one, None, False)]
        for first, second, answer in rows:
            self.assertEqual(equal_deed(first, second), ("value", answer))
            self.assertEqual(unlike_deed(first, second), ("value", not answer))
            self.assertEqual(binary_deed("eq", first, second), ("value", answer))
            self.assertEqual(binary_deed("ne", first, second), ("value", not answer))
            self.assertIs(equal_deed(one=first, other=second)[1], answer)

    def test_the_event(self):
        one, other, plain = table(eq=F), table(eq=G), Table(3)
        self.assertEqual(equal_deed(one, other), ("call", F, [one, other], "truth"))
        self.assertEqual(unlike_deed(one, other), ("call", F, [one, other], "untrue"))
        self.assertEqual(equal_deed(plain, other), ("call", G, [plain, other], "truth"))
        self.assertEqual(binary_deed("ne", plain, other), ("call", G, [plain, other], "untrue"))
        self.assertEqual(equal_deed(one, one), ("value", True))
        for value in (None, 1, "x", F, True):
            self.assertEqual(equal_deed(one, value), ("value", False))
            self.assertEqual(equal_deed(value, one), ("value", False))


class LessTest(EventsCase):
    def test_numbers_and_strings(self):
        rows = [("lt", 1, 2, True), ("lt", 2, 2, False), ("le", 2, 2, True), ("gt", 3, 2, True), ("ge", 2, real(2.0), True), ("gt", 1, 2, False),
                ("lt", 1, real(1.5), True), ("le", NAN, NAN, False), ("ge", NAN, 1, False), ("lt", 2 ** 53, real(2.0 ** 53), False),
                ("lt", "a", "b", True), ("lt", "a", "ab", True), ("lt", "ab", "a", False), ("le", "a", "a", True), ("lt", "a", "a", False), ("gt", "a", "a", False), ("gt", "b", "a", True),
                ("lt", "Z", "a", True), ("lt", "", "a", True), ("ge", "a", "ab", False), ("lt", "10", "9", True)]
        for word, one, other, answer in rows:
            self.assertEqual(less_deed(word, one, other), ("value", answer), (word, one, other))
            self.assertEqual(binary_deed(word, one, other), ("value", answer))
            self.assertIs(less_deed(word=word, one=one, other=other)[1], answer)

    def test_events(self):
        one, other = table(lt=F, le=F), table(lt=G, le=G)
        for word in ("lt", "le"):
            self.assertEqual(less_deed(word, one, other), ("call", F, [one, other], "truth"))
            self.assertEqual(less_deed(word, 1, other), ("call", G, [1, other], "truth"))
        for word in ("gt", "ge"):
            self.assertEqual(less_deed(word, one, other), ("call", G, [other, one], "truth"))
            self.assertEqual(less_deed(word, one, "x"), ("call", F, ["x", one], "truth"))

    def test_le_does_not_ask_lt(self):
        one = table(lt=F)
        self.throws("attempt to compare two table values", less_deed, "le", one, one)
        self.assertEqual(less_deed("gt", one, 1), ("call", F, [1, one], "truth"))
        self.throws("attempt to compare table with number", less_deed, "lt", table(le=F), 1)

    def test_errors(self):
        self.throws("attempt to compare number with nil", less_deed, "lt", 1, None)
        self.throws("attempt to compare number with nil", less_deed, "gt", None, 1)
        self.throws("attempt to compare nil with number", less_deed, "le", None, 1)
        self.throws("attempt to compare string with number", less_deed, "ge", 1, "1")
        self.throws("attempt to compare two nil values", less_deed, "lt", None, None)
        self.throws("attempt to compare two boolean values", less_deed, "ge", True, False)
        self.throws("attempt to compare two table values", less_deed, "le", Table(1), Table(2))
        self.throws("attempt to compare two function values", binary_deed, "lt", F, G)
        self.throws("attempt to compare function with table", binary_deed, "gt", Table(1), F)


class CallTargetTest(EventsCase):
    def test_functions(self):
        args = [1, None]
        called, found = call_target(F, args)
        self.assertIs(called, F)
        self.assertEqual(found, [1, None])
        self.assertIsNot(found, args)
        self.assertEqual(call_target(called=F, args=[]), (F, []))

    def test_the_event(self):
        one = table(call=F)
        other = table(call=one)
        self.assertEqual(call_target(one, [5]), (F, [one, 5]))
        args = [5]
        self.assertEqual(call_target(other, args), (F, [one, other, 5]))
        self.assertEqual(args, [5])

    def test_errors(self):
        for value, kind in OTHERS[:3] + [(5, "number"), ("x", "string"), (Table(1), "table"), (table(), "table")]:
            self.throws(f"attempt to call a {kind} value", call_target, value, [])
        self.throws("attempt to call a number value", call_target, table(call=5), [])
        self.throws("attempt to call a boolean value", call_target, table(call=False), [])

    def test_rows(self):
        called, args = call_target(chain(99, "__call", F), ["x"])
        self.assertIs(called, F)
        self.assertEqual([arg.number for arg in args[:-1]], list(range(99)))
        self.assertEqual(args[-1], "x")
        self.throws("attempt to call a table value", call_target, chain(99, "__call"), [])
        self.throws("attempt to call a number value", call_target, chain(98, "__call", 5), [])

    def test_the_hundredth_of_a_row_with_an_event(self):
        text = "'__call' chain too long; possibly a loop"
        for event in (F, True, False, 5, "x", Table(1), table(call=F)):
            self.throws(text, call_target, chain(100, "__call", event), [1])
        self.throws(text, call_target, chain(101, "__call"), [1])
        self.throws(text, call_target, chain(99, "__call", table(call=F)), [1])

    def test_the_hundredth_of_a_row_without_an_event(self):
        self.throws("attempt to call a table value", call_target, chain(100, "__call"), [1])
        for value, kind in [(5, "number"), (real(1.5), "number"), ("x", "string"), (True, "boolean"), (False, "boolean"), (Table(1), "table"), (table(), "table")]:
            self.throws(f"attempt to call a {kind} value", call_target, chain(99, "__call", value), [1])

    def test_rings(self):
        one = Table(1)
        one.meta = one
        one.put("__call", one)
        self.throws("'__call' chain too long; possibly a loop", call_target, one, [])


class MetatablesTest(EventsCase):
    def test_set_and_told(self):
        one, meta = Table(1), Table(2)
        self.assertIsNone(told_meta(one))
        self.assertIsNone(set_meta(one, meta))
        self.assertIs(one.meta, meta)
        self.assertIs(told_meta(one), meta)
        set_meta(table=one, meta=None)
        self.assertIsNone(one.meta)
        for value in (None, 1, "x", F, True):
            self.assertIsNone(told_meta(value))

    def test_protected(self):
        for field in ("locked", False, 5, Table(9)):
            one = table(metatable=field)
            meta = one.meta
            self.throws("cannot change a protected metatable", set_meta, one, None)
            self.throws("cannot change a protected metatable", set_meta, one, Table(3))
            self.assertIs(one.meta, meta)
            self.assertIs(told_meta(one), field)

    def test_the_new_one_protects_only_from_then_on(self):
        one = Table(1)
        set_meta(one, table(metatable=1).meta)
        self.throws("cannot change a protected metatable", set_meta, one, None)

    def test_closable(self):
        for value in (None, False, table(close=F), table(close=5), table(close=False)):
            self.assertIs(is_closable(value), True)
        for value in (True, 0, "", F, Table(1), table(), table(gc=F)):
            self.assertIs(is_closable(value=value), False)

    def test_without_events_every_deed_is_a_value_or_an_error(self):
        values = [None, True, 1, real(1.5), "x", F, Table(1), table()]
        words = list(ARITH) + list(BITS) + "concat eq ne lt le gt ge".split()
        for one in values:
            for other in values:
                for word in words:
                    if thrown(binary_deed, word, one, other) is None:
                        self.assertEqual(binary_deed(word, one, other)[0], "value")

    def test_the_functions_stand_in_their_module(self):
        for name in ("meta_of shaped index_deed store_deed arith_deed unary_deed concat_deed length_deed equal_deed unlike_deed less_deed binary_deed"
                     " call_target set_meta told_meta is_closable").split():
            self.assertEqual(getattr(events, name).__module__, "upvalues.events")


class FreshTest(EventsCase):
    def test_lists_are_new(self):
        one = table(add=F)
        first, second = arith_deed("add", one, 1), arith_deed("add", one, 1)
        self.assertIsNot(first[2], second[2])
        self.assertIsInstance(first[2], list)
        self.assertIsInstance(Float(1, 1, 0), Float)


if __name__ == "__main__":
    unittest.main()
