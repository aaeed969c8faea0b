"""[2] and the interface of errors.py, objects.py and code.py."""

import unittest

from builders import INF, NAN, ZERO
from upvalues.code import Code
from upvalues.errors import InvalidArgument, InvalidCode, InvalidProgram, LimitExceeded, LuaError
from upvalues.objects import Native, Thrown, kind_name


class ErrorsTest(unittest.TestCase):
    def test_all_derive_directly(self):
        self.assertEqual(LuaError.__bases__, (ArithmeticError,))
        for error in (InvalidProgram, InvalidCode, InvalidArgument, LimitExceeded):
            self.assertEqual(error.__bases__, (LuaError,))

    def test_thrown_is_no_lua_error(self):
        self.assertEqual(Thrown.__bases__, (ArithmeticError,))
        self.assertFalse(issubclass(Thrown, LuaError))

    def test_lua_error_can_be_caught(self):
        with self.assertRaises(LuaError):
            raise InvalidArgument("sign")

    def test_attributes_by_position(self):
        program = InvalidProgram((0, 1), "form")
        self.assertEqual((program.path, program.word), ((0, 1), "form"))
        code = InvalidCode(2, 3, "row")
        self.assertEqual((code.function, code.at, code.word), (2, 3, "row"))
        self.assertEqual(InvalidArgument("work").part, "work")
        self.assertEqual(LimitExceeded(100).limit, 100)

    def test_attributes_by_name(self):
        program = InvalidProgram(word="form", path=())
        self.assertEqual((program.path, program.word), ((), "form"))
        code = InvalidCode(word="form", at=None, function=None)
        self.assertEqual((code.function, code.at, code.word), (None, None, "form"))
        self.assertEqual(InvalidArgument(part="work").part, "work")
        self.assertEqual(LimitExceeded(limit=100).limit, 100)

    def test_messages_can_be_made(self):
        for error in (InvalidProgram((0,), "form"), InvalidCode(None, None, "form"), LimitExceeded(10 ** 5000)):
            self.assertNotEqual(type(error).__name__, "")
        self.assertIn("form", str(InvalidProgram((0,), "form")))


class ObjectsTest(unittest.TestCase):
    def test_thrown_has_any_value(self):
        for value in ("text", None, 5, True, INF, Native("next", None)):
            self.assertIs(Thrown(value).value, value)
        self.assertEqual(Thrown(value="x").value, "x")
        with self.assertRaises(ArithmeticError):
            raise Thrown("x")

    def test_native(self):
        act = len
        self.assertEqual(Native("print", act).name, "print")
        self.assertEqual(Native(name="kind", act=None).name, "kind")
        one, other = Native("kind", None), Native("kind", None)
        self.assertNotEqual(one, other)
        self.assertEqual(one, one)

    def test_kinds(self):
        kinds = [
            (None, "nil"), (True, "boolean"), (False, "boolean"), (0, "number"), (-5, "number"), (2 ** 63 - 1, "number"),
            (ZERO, "number"), (INF, "number"), (NAN, "number"), ("", "string"), ("nil", "string"),
            (Native("next", None), "function"), (Native("coroutine.wrap", len), "function"),
        ]
        for value, kind in kinds:
            self.assertEqual(kind_name(value), kind)
        self.assertEqual(kind_name(value=None), "nil")


class CodeTest(unittest.TestCase):
    def parts(self):
        return [1, True, 3, [("reg", 0), ("up", 1)], [("load", 0, 5), ("return", 0, 1, False)], [1, 2], [1, 0]]

    def test_attributes(self):
        code = Code(*self.parts())
        found = [code.params, code.has_dots, code.size, code.upvalues, code.instructions, code.lines, code.lives]
        self.assertEqual(found, self.parts())

    def test_by_name(self):
        code = Code(lives=[1], lines=[2], instructions=[("jump", 0)], upvalues=[("up", 0)], size=4, has_dots=False, params=3)
        self.assertEqual(code.all_parts(), (3, False, 4, [("up", 0)], [("jump", 0)], [2], [1]))

    def test_lists_are_copies(self):
        parts = self.parts()
        code = Code(*parts)
        for part in parts[3:]:
            part.append("more")
        self.assertEqual(code.all_parts(), tuple(self.parts()))

    def test_all_parts_is_a_new_tuple_of_new_lists(self):
        code = Code(*self.parts())
        told = code.all_parts()
        self.assertIsInstance(told, tuple)
        for part in told[3:]:
            part.clear()
        self.assertEqual(code.all_parts(), tuple(self.parts()))
        self.assertEqual(code.upvalues, [("reg", 0), ("up", 1)])

    def test_anything_can_be_held(self):
        code = Code(None, 5, "x", None, ("jump", 0), {}, NAN)
        self.assertEqual(code.all_parts(), (None, 5, "x", None, ("jump", 0), {}, NAN))

    def test_it_has_its_own_method(self):
        self.assertIn("all_parts", vars(Code))


if __name__ == "__main__":
    unittest.main()
