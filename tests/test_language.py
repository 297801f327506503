"""The package keeps to its language rule by rule, and the checks of language.py find what doesn't."""

import pathlib
import unittest

import language

FOLDER = pathlib.Path(__file__).resolve().parent.parent / "chestkeys"
GOOD = {
    "__init__.py": '"""A package."""\n',
    "chest.py": (
        '"""The interface."""\n\nfrom chestkeys.other import Kept, helped\n\nROWS = (1, 2)\n\n\n'
        'def answers(calls):\n    """Answer."""\n    kept = Kept(len(calls))\n'
        '    return [helped(number, kept) for number in calls if number in ROWS]\n'),
    "other.py": (
        '"""Others."""\n\n\nclass Kept:\n    """Keeps."""\n\n    def __init__(self, number):\n'
        '        self.number = number\n\n\ndef helped(number, kept):\n    """Help."""\n'
        '    return number + kept.number\n'),
}

# By rule: what stands in a file of the package that breaks it.
BAD = {
    "L2": ("import math", "from math import floor", "from . import other", "from chestkeys.other import *",
           "def f():\n    from chestkeys.other import helped\n    return helped", "import sys"),
    "L3": ("X = len([])", "print(1)", "if True:\n    X = 1", "X = [1 for k in range(3)]", "X = 1 + 2", "X = Y = 3",
           "X = (g,)\n\n\ndef g():\n    return 1", "for k in range(3):\n    pass"),
    "L4": ("def f(*xs):\n    return xs", "def f(**xs):\n    return xs", "def f(*, a):\n    return a",
           "def f(a=[]):\n    return a", "def f(a=-1):\n    return a", "@g\ndef f():\n    return 1",
           "def f(a):\n    def g():\n        a = 1\n        return a\n    return g()"),
    "L5": ("class A(dict):\n    def f(self):\n        return 1", "class A:\n    x = 1",
           "class A:\n    def __add__(self, other):\n        return 1", "@g\nclass A:\n    pass"),
    "L6": ("def f():\n    with g() as h:\n        return h", "def f(a):\n    del a", "def f(a):\n    assert a",
           "def f():\n    global X", "def f(a):\n    for k in a:\n        pass\n    else:\n        pass",
           "def f():\n    a = b = 1\n    return a + b", "def f():\n    try:\n        g()\n    except:\n        pass",
           "def f():\n    try:\n        g()\n    finally:\n        pass", "def f(a):\n    a + 1",
           "def f(a):\n    match a:\n        case 1:\n            return 2", "def f():\n    import math"),
    "L7": ("def f(a):\n    return a / 2", "def f():\n    return 0.5", "def f():\n    return b'x'", "X = {1, 2}",
           "def f(a):\n    return {k for k in a}", "def f(a):\n    return {k: 1 for k in a}",
           "def f(a):\n    return list(k for k in a)", "def f(a):\n    return [*a]", "def f(a):\n    return (b := a)",
           "def f(a):\n    return [k for k in a for m in k]", "def f(a):\n    return [k for k in a if k if a]",
           "def f(a):\n    return f'{a + 1}'", "def f(a):\n    return f'{a:3}'", "def f(a):\n    return f'{a!s}'",
           "def f(a):\n    yield a", "def f(a):\n    a /= 2\n    return a"),
    "L8": ("def f(a):\n    return iter(a)", "def f():\n    return open('x')", "def f(len):\n    return len",
           "def sum(a):\n    return a", "def f(a):\n    return a.__class__", "def f(a):\n    return a.format(1)",
           "def f(a):\n    print(a)", "def f(a):\n    return round(a)"),
    "L9": ("def f(a):\n    print(a)",),
    "L10": ("X = '" + "x" * 120 + "'", "def f():\n\treturn 1", "def f(a):\n" + "    a = 1\n" * 40,
            "X = 1\n" + "\n" * 400),
    "L11": ("def f(a):\n    for k in set(a):\n        g(k)", "def f():\n    return [k for k in {1, 2}]",
            "def f(a):\n    return set(a).pop()"),
    "L12": ("def f():\n    _ = 1", "def _f():\n    return 1", "def f(_a):\n    return 1", "def f(a):\n    return a._b"),
    "L13": ("def f():\n    return len({1, 2, 3})", "def f(a):\n    return g(lambda x: 1, lambda x: 2)"),
    "L14": ("X = '\u00e9'", "# \u00df\nX = 1"),
    "L15": ("X = 1\nX = 2", "def f():\n    return 1\n\n\ndef f():\n    return 2", "X = [[1]]", "X = {1: [2]}",
            "X = [1]\n\n\ndef f():\n    X.append(2)", "X = [1]\n\n\ndef f():\n    X[0] = 2",
            "X = [1]\n\n\ndef f():\n    return X", "X = [1]\n\n\ndef f():\n    return g(X)",
            "X = [1]\n\n\ndef f():\n    y = X\n    return y", "def f():\n    class A:\n        pass\n    return A()",
            "class A:\n    pass\n\n\ndef f(A):\n    return A", "def f(id):\n    return id",
            "def f():\n    hash = 1\n    return hash",
            "from chestkeys.other import helped\n\n\ndef f(helped):\n    return helped"),
    "L16": ("from chestkeys.other import missing", "from chestkeys.nowhere import helped",
            "from chestkeys.bad import f\n\n\ndef g():\n    return 1", "def answers(calls):\n    return calls",
            "from chestkeys.chest import Kept"),
    "L17": ("def f():\n    return open", "def f(a):\n    return a.register()", "def f(id):\n    return id",
            "# its type\nX = 1", "X = 'enum'", "X = 'a dataclasses'", "def f(a):\n    return vars(a)",
            "def f():\n    return __name__", "def f(a):\n    return a.f_back"),
    "L18": ("class A:\n    pass\n\n\ndef f():\n    return [A]", "class A:\n    pass\n\n\ndef f():\n    A.x = 1",
            "class A:\n    def f(self):\n        return 1\n\n    def f(self):\n        return 2",
            "class A:\n    def f(self):\n        return 1\n\n\nclass B:\n    def __init__(self):\n        self.f = 1",
            "class A(StopIteration):\n    pass", "def f():\n    return ValueError"),
    "L19": ("def f():\n    try:\n        g()\n    except Exception:\n        pass",
            "def f():\n    try:\n        g()\n    except TypeError:\n        pass",
            "def f():\n    try:\n        g()\n    except ValueError:\n        pass",
            "def f(a):\n    try:\n        return a[g()]\n    except IndexError:\n        return 1",
            "def f():\n    raise ValueError", "def f():\n    raise", "def f():\n    try:\n        g()\n    except ():\n        pass",
            "def f(a):\n    raise ValueError('x') from a"),
    "L20": ("def f(a):\n    return a is 1", "def f(a, b):\n    return a is not b"),
    "L21": ("def f(a: int):\n    return a", "def f() -> int:\n    return 1", "X: int = 1"),
    "L22": ("def f():\n    return [len]", "def f(a):\n    return sorted(a, key=repr)", "def f(a):\n    return int(a, base=2)",
            "def f(a, b):\n    return sorted(a, reverse=b)", "def f(a):\n    return a.split(sep='x')"),
    "L23": ("def f(a):\n    b = range(a)\n    return b", "def f(a):\n    return enumerate(a)", "def f(d):\n    return d.items()",
            "def f(a):\n    for k in a:\n        a.append(k)", "def f(a):\n    for k, b in enumerate(a):\n        a[k] = b",
            "def f(d):\n    for k in d.keys():\n        d.pop(k)"),
    "L24": ("def f(a):\n    b = set(a)\n    return b", "def f(a):\n    return sorted(set(a), reverse=True)",
            "def f(a):\n    return set(a)"),
    "L25": ("def f(a):\n    a.sort()", "def f(a):\n    return a.title()", "def f(a):\n    return a.append",
            "def f(a):\n    return a.encode()"),
    "L26": ("class A:\n    def sort(self):\n        return 1", "class A:\n    def __init__(self):\n        self.keys = 1",
            "class A:\n    def __init__(self):\n        self.real = 1", "class A:\n    def encode(self):\n        return 1"),
    "L27": ("def f(a):\n    return 2 ** a", "def f(a):\n    return a ** 65", "X = '100 %'", "def f(a):\n    return chr(a)",
            "X = '\\x41'", "X = '\\u0041'", "X = " + "1" * 901, "def f(a):\n    a **= a\n    return a"),
    "L28": ("class A:\n    def __init__(self):\n        return None",
            "class A:\n    def __len__(self):\n        return self.number()",
            "class A:\n    def __str__(self):\n        self.number = 1\n        return 'x'",
            "class A:\n    def __eq__(self, other):\n        a = 1\n        a += 1\n        return True",
            "class A:\n    def __repr__(self):\n        return self.number"),
}
BAD_FILES = {
    "L1": ("a-b.py", "notes.txt", "a b.py"),
    "L14": ("Upper.py", "test_x.py", "tests.py", "range.py", "conftest.py", "sub/__main__.py", "sub/other.py"),
}


def rules_broken(files):
    return {breach[0] for breach in language.breaches(files)}


class Language(unittest.TestCase):
    def test_the_package_keeps_to_it(self):
        files = {}
        for path in FOLDER.rglob("*"):
            if path.is_file() and "__pycache__" not in path.parts:
                files[path.relative_to(FOLDER).as_posix()] = path.read_text("utf-8")
        self.assertIn("chest.py", files)
        self.assertEqual(language.breaches(files), [])

    def test_a_good_package_has_no_breach(self):
        self.assertEqual(language.breaches(GOOD), [])

    def test_each_rule_is_looked_for(self):
        self.assertEqual(sorted(set(BAD) | set(BAD_FILES)), sorted(f"L{number}" for number in range(1, 29)))
        for rule, sources in BAD.items():
            for source in sources:
                with self.subTest(rule=rule, source=source):
                    self.assertIn(rule, rules_broken(dict(GOOD, **{"bad.py": source + "\n"})))
        for rule, paths in BAD_FILES.items():
            for path in paths:
                with self.subTest(rule=rule, path=path):
                    self.assertIn(rule, rules_broken(dict(GOOD, **{path: "X = 1\n"})))

    def test_the_interface_stands_in_its_file(self):
        without = dict(GOOD, **{"chest.py": "X = 1\n"})
        with_default = dict(GOOD, **{"chest.py": "def answers(calls=None):\n    return calls\n"})
        self.assertIn("L16", rules_broken(without))
        self.assertIn("L16", rules_broken(with_default))

    def test_files_that_draw_from_one_another(self):
        files = dict(GOOD, **{"one.py": "from chestkeys.two import g\n\n\ndef f():\n    return g()\n",
                              "two.py": "from chestkeys.one import f\n\n\ndef g():\n    return f()\n"})
        self.assertIn("L16", rules_broken(files))

    def test_a_package_without_init(self):
        self.assertIn("L14", rules_broken({"chest.py": GOOD["chest.py"], "other.py": GOOD["other.py"]}))


if __name__ == "__main__":
    unittest.main()
