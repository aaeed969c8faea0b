"""[17] to [25] by their words: what is found in one pass against what each word means for one place alone."""

import random
import unittest

from builders import refusal
from upvalues.programs import check_program, statement_paths, tail_returns
from upvalues.scopes import declarations, jumps, upvalue_places, uses

BLOCK_PLACES = {"do": 1, "while": 2, "repeat": 1, "for": 5, "forin": 3, "function": 3}


class Maker:
    """Makes programs by chance, with few names, so that they often meet."""

    def __init__(self, seed):
        self.chance = random.Random(seed)
        self.pick = self.chance.choice
        self.labels = ""

    def word(self):
        return self.pick(["a", "a", "b", "c", "_ENV"])

    def few(self, make, least=0, most=2):
        return tuple(make() for _ in range(self.chance.randint(least, most)))

    def function(self, deep):
        kept = self.labels
        self.labels = ""
        found = ("function", self.few(self.word), self.pick([True, False]), self.block(deep + 1, False))
        self.labels = kept
        return found

    def expression(self, deep):
        kind = self.pick(["name"] * 6 + ["nil", "op", "index", "call", "table", "dots"] + ["function"] * 3)
        if deep > 6 or kind == "nil":
            return ("nil",)
        if kind == "name":
            return ("name", self.word())
        if kind == "dots":
            return ("dots",) if self.chance.random() < 0.1 else ("nil",)
        if kind == "function":
            return self.function(deep)
        make = lambda: self.expression(deep + 1)
        if kind == "op":
            return ("op", "add", make(), make())
        if kind == "index":
            return ("index", make(), make())
        if kind == "call":
            return ("call", make(), self.few(make))
        return ("table", self.few(lambda: self.pick([("item", make()), ("pair", make(), make())])))

    def block(self, deep, in_loop):
        """A block with labels of its own, to which most of the gotos in it go."""
        kept = self.labels
        own = [word for word in "pqrs" if self.chance.random() < 0.25 and (word not in kept or self.chance.random() < 0.1)]
        self.labels = kept + "".join(own)
        block = [self.statement(deep, in_loop) for _ in range(self.chance.randint(0, 4 if deep < 5 else 1))]
        for word in own:
            block.insert(self.pick([self.chance.randint(0, len(block)), len(block)]), ("label", word))
        if self.chance.random() < 0.4:
            block.append(("return", self.few(lambda: self.expression(deep + 1), 0, 1)))
        self.labels = kept
        return tuple(block)

    def statement(self, deep, in_loop):
        make = lambda: self.expression(deep + 1)
        kind = self.pick("local local local localfun set do while repeat if for forin call goto goto break".split())
        if kind == "local":
            names = self.few(self.word, 1, 3)
            marks = tuple(self.pick([None] * 9 + ["const", "close"]) for _ in names)
            return (kind, names, marks, self.few(make))
        if kind == "localfun":
            return (kind, self.word(), self.function(deep))
        if kind == "set":
            return (kind, self.few(lambda: self.pick([("name", self.word()), ("index", make(), make())]), 1), self.few(make, 1))
        if kind == "call":
            return (kind, ("call", make(), self.few(make)))
        if kind == "goto" and (self.labels or self.chance.random() < 0.05):
            return (kind, self.pick(self.labels if self.chance.random() < 0.98 and self.labels else "pqrs"))
        if kind == "break" and (in_loop or self.chance.random() < 0.05):
            return (kind,)
        return self.compound(kind, deep, in_loop)

    def compound(self, kind, deep, in_loop):
        make = lambda: self.expression(deep + 1)
        inner = lambda: self.block(deep + 1, True)
        if kind == "while":
            return (kind, make(), inner())
        if kind == "repeat":
            return (kind, inner(), make())
        if kind == "for":
            return (kind, self.word(), make(), make(), self.pick([None, make()]), inner())
        if kind == "forin":
            return (kind, self.few(self.word, 1), self.few(make, 1), inner())
        if kind == "if":
            arms = self.few(lambda: (make(), self.block(deep + 1, in_loop)), 1)
            return (kind, arms, self.pick([None, self.block(deep + 1, in_loop)]))
        return ("do", self.block(deep + 1, in_loop))


class Tree:
    """A program whose places are asked one by one; all is found by going up from a path."""

    def __init__(self, program):
        self.program = program
        self.statements = []
        self.names = []
        self.functions = [()]
        self.dots = []
        self.walk_block((), program)

    def at(self, path):
        node = self.program
        for place in path:
            node = node[place]
        return node

    def walk_block(self, path, block):
        for place, statement in enumerate(block):
            self.statements.append(path + (place,))
            self.walk_parts(path + (place,), statement)

    def walk_parts(self, path, node):
        word = node[0]
        for place, part in enumerate(node):
            here = path + (place,)
            if place == 0 or part is None or isinstance(part, (str, bool)) or (word in ("local", "forin", "function") and place == 1):
                continue
            if word == "local" and place == 2:
                continue
            if BLOCK_PLACES.get(word) == place or (word == "if" and place == 2):
                self.walk_block(here, part)
            elif word == "if":
                for at, (question, block) in enumerate(part):
                    self.walk_node(here + (at, 0), question)
                    self.walk_block(here + (at, 1), block)
            elif part and isinstance(part[0], str):
                self.walk_node(here, part)
            else:
                for at, one in enumerate(part):
                    self.walk_node(here + (at,), one)

    def walk_node(self, path, node):
        if node[0] == "name":
            self.names.append(path)
        elif node[0] == "function":
            self.functions.append(path)
        elif node[0] == "dots":
            self.dots.append(path)
        self.walk_parts(path, node)

    def is_block(self, path):
        """Whether a block stands at a path."""
        if path == ():
            return True
        for back in (1, 3):
            owner = self.at(path[:-back]) if len(path) >= back and path[:-back] else None
            if owner and isinstance(owner[0], str) and back == 1:
                return BLOCK_PLACES.get(owner[0]) == path[-1] or (owner[0] == "if" and path[-1] == 2)
            if owner and owner[0] == "if" and back == 3:
                return path[-3] == 1 and path[-1] == 1
        return False

    def function_of(self, path):
        """The path of the innermost function that stands around a path."""
        return max([place for place in self.functions if place == () or path[:len(place) + 1] == place + (3,)], key=len)

    def declared_by(self, path):
        """The variables that the statement or the function at a path declares, in their order."""
        node = self.at(path)
        names = {"local": node[1:2], "forin": node[1:2], "function": node[1:2]}.get(node[0])
        if names:
            marks = node[2] if node[0] == "local" else [None] * len(names[0])
            return [(path, place, word, mark) for place, (word, mark) in enumerate(zip(names[0], marks))]
        return [(path, 0, node[1], None)] if node[0] in ("for", "localfun") else []

    def visible(self, path, within):
        """The variables of the function at a path that are in scope at another one, the last one last."""
        found = []
        for end in range(len(within), len(path)):
            here = path[:end]
            step = path[end]
            if self.is_block(here):
                for place in range(step):
                    if self.at(here + (place,))[0] in ("local", "localfun"):
                        found += self.declared_by(here + (place,))
                continue
            node = self.at(here)
            if not isinstance(node[0], str):
                continue
            if node[0] in ("for", "forin", "function") and BLOCK_PLACES[node[0]] == step:
                found += self.declared_by(here) if node[0] != "function" or here == within else []
            if node[0] == "localfun":
                found += self.declared_by(here)
            if node[0] == "repeat" and step == 2:
                for place, statement in enumerate(node[1]):
                    if statement[0] in ("local", "localfun"):
                        found += self.declared_by(here + (1, place))
        return [one for one in found if self.function_of_variable(one) == within]

    def function_of_variable(self, variable):
        return variable[0] if self.at(variable[0])[0] == "function" else self.function_of(variable[0])

    def variable(self, path, word):
        """(variable or None, borders) of a name at a path; (None, None) for no variable."""
        borders = 0
        here = path
        while True:
            within = self.function_of(here)
            for one in reversed(self.visible(path if borders == 0 else here, within)):
                if one[2] == word:
                    return one, borders
            if within == ():
                return (None, borders) if word == "_ENV" else (None, None)
            borders += 1
            here = within

    def use(self, path):
        word = self.at(path)[1]
        variable, borders = self.variable(path, word)
        kind = "local" if borders == 0 and variable else "upvalue"
        if borders is None:
            kind = "field"
            variable, borders = self.variable(path, "_ENV")
        return (path, kind, variable and variable[:2], borders)

    def blocks_around(self, path):
        """(block path, place in it) of all blocks of the function around a path, the innermost first."""
        within = self.function_of(path)
        first = len(within) + 1 if within else 0
        return [(path[:end], path[end]) for end in range(len(path) - 1, first - 1, -1) if self.is_block(path[:end])]

    def jump(self, path):
        """Where a goto or a break goes; or a word for what is wrong with it."""
        node = self.at(path)
        for block, place in self.blocks_around(path):
            owner = self.at(block[:-1]) if block and block[-1] in (1, 2, 3, 5) else ("no",)
            if node[0] == "break":
                if block and owner[0] in ("while", "repeat", "for", "forin"):
                    return block[:-1]
                continue
            labels = [at for at, one in enumerate(self.at(block)) if one == ("label", node[1])]
            if labels:
                between = self.at(block)[place:labels[0]]
                behind = self.at(block)[labels[0]:]
                is_end = all(one[0] == "label" for one in behind) and owner[0] != "repeat"
                if any(one[0] in ("local", "localfun") for one in between) and not is_end:
                    return "scope"
                return block + (labels[0],)
        return node[0]

    def fault(self):
        """The path and the word of the first fault, without the bounds."""
        found = []
        for path in self.statements:
            node = self.at(path)
            if node[0] == "local" and node[2].count("close") > 1:
                found.append((path, "close"))
            if node[0] == "return" and path[-1] != len(self.at(path[:-1])) - 1:
                found.append((path, "return"))
            if node[0] in ("goto", "break") and isinstance(self.jump(path), str):
                found.append((path, self.jump(path)))
            if node[0] == "label" and any(node in self.at(block)[:place] for block, place in self.blocks_around(path)):
                found.append((path, "label"))
            if node[0] == "set":
                for place, target in enumerate(node[1]):
                    variable = self.variable(path + (1, place), target[1])[0] if target[0] == "name" else None
                    if variable and variable[3]:
                        found.append((path + (1, place), "const"))
        for path in self.dots:
            within = self.function_of(path)
            if within and not self.at(within)[2]:
                found.append((path, "dots"))
        return min(found) if found else None

    def upvalues(self):
        """The upvalues of all functions, and which variables are captured."""
        rows = {path: [] for path in self.functions}
        rows[()] = [None]
        for path in self.names:
            _, _, where, borders = self.use(path)
            within = self.function_of(path)
            for _ in range(borders):
                if where not in rows[within]:
                    rows[within].append(where)
                within = self.function_of(within)
        return [rows[path] for path in sorted(self.functions)]

    def tails(self):
        found = []
        for path in self.statements:
            node = self.at(path)
            if node[0] == "return" and len(node[1]) == 1 and node[1][0][0] in ("call", "method"):
                within = self.function_of(path)
                closed = any(one[3] == "close" for one in self.visible(path, within))
                around = [self.at(block[:-1])[0] for block, _ in self.blocks_around(path) if len(block) > 1 and isinstance(self.at(block[:-1])[0], str)]
                if not closed and "forin" not in around:
                    found.append(path)
        return found


class DefinitionsTest(unittest.TestCase):
    def test_many_programs(self):
        good = 0
        words = {}
        for seed in range(1500):
            program = Maker(seed).block(0, False)
            tree = Tree(program)
            found = refusal(program, check_program)
            if found is not None and found[1] == "bounds":
                continue
            self.assertEqual(found, tree.fault(), program)
            self.assertEqual(found, refusal(program, uses), program)
            if found is None:
                good += len(program) > 0
                self.check(program, tree)
            else:
                words[found[1]] = words.get(found[1], 0) + 1
        self.assertGreater(good, 500)
        self.assertEqual(sorted(words), ["break", "close", "const", "dots", "goto", "label", "scope"])

    def check(self, program, tree):
        self.assertEqual(statement_paths(program), sorted(tree.statements), program)
        self.assertEqual(tail_returns(program), sorted(tree.tails()), program)
        self.assertEqual(uses(program), [tree.use(path) for path in sorted(tree.names)], program)
        rows = tree.upvalues()
        self.assertEqual(upvalue_places(program), rows, program)
        captured = [where for row in rows for where in row]
        told = []
        for path in tree.statements + tree.functions[1:]:
            told += [one + (one[:2] in captured,) for one in tree.declared_by(path)]
        self.assertEqual(sorted(declarations(program), key=lambda one: one[:2]), sorted(told, key=lambda one: one[:2]), program)
        going = [path for path in tree.statements if tree.at(path)[0] in ("goto", "break")]
        self.assertEqual(jumps(program), [(path, tree.jump(path)) for path in sorted(going)], program)


if __name__ == "__main__":
    unittest.main()
