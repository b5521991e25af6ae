"""The examples of the document, all of them, in one go from the first to the last."""

import unittest

from hookrow import errors

EXAMPLES = r"""
>>> from hookrow.hooks import Hook
>>> from hookrow.plugins import Part, Plugin
>>> from hookrow.hosts import Host
>>> shade = Hook("shade", "first", [("size", "number")])
>>> host = Host([shade])
>>> host.add(Plugin("a", [Part("shade", ("if", ("most", "size", 9), ("number", 1), ("none",)))]))
>>> host.add(Plugin("b", [Part("shade", ("none",), after=["a"], before=["c"])]))
>>> host.add(Plugin("c", [Part("shade", ("number", 2))]))
>>> host.call("shade", 4), host.call("shade", size=12)
(1, 2)
>>> hook = Hook("trim", "through", [("text", "word"), ("size", "number", 3)], only=[("mode", "word", "hard")], gives="word")
>>> str(hook)
"through trim(text: word, size: number = 3, *, mode: word = 'hard) -> word"
>>> hook.bind(["red"], {"mode": "soft"})
{'text': 'red', 'size': 3, 'mode': 'soft'}
>>> from hookrow.bodies import check_body, children, count
>>> body = ("ask", (("size", ("plus", "size", 1)),), ("plus", "inner", 2), None)
>>> count(body), children(body)[0], check_body(shade, body, wraps=True)
(3, ((1, 0, 1), ('plus', 'size', 1)), True)
>>> check_body(shade, ("if", ("is", "size", "red"), ("number", 1), ("none",)))
raises InvalidBody('sort', (1,))
>>> from hookrow.bodytexts import read_body, show_body
>>> show_body(("if", ("both", ("most", "size", 3), ("not", ("is", "mode", "red"))), ("plus", "size", -1), ("none",)))
"if both size <= 3 and not mode is 'red then size - 1 else none"
>>> read_body("ask with size = 0 giving inner + 1")
('ask', (('size', ('number', 0)),), ('plus', 'inner', 1), None)
>>> read_body("if size <= red then 1 else 2")
raises InvalidText(3)
>>> from hookrow.calls import Calls
>>> some = Calls(hook, {"size": (2, None), "mode": (["soft"], False)})
>>> some.least, {"text": "a", "size": 1, "mode": "a"} in some
({'text': 'a', 'size': 2, 'mode': 'a'}, False)
>>> [one.bound("size") for one in Calls(hook) - some]
[(None, 1), (2, None)]
>>> from hookrow.terms import Moved, Value, parting, written
>>> box = Calls(shade, {"size": (5, 7)})
>>> parting([Moved("size")], [Value(5), Value(6)], box), parting([Value(7)], [Moved("size", 1), Moved("size", 2)], box)
({'size': 7}, {'size': 7})
>>> from hookrow.rows import Row
>>> row = Row(["a", "b", "c", "d"], [("b", "a"), ("a", "c")])
>>> row.order, row.count(), row.freed("a"), row.free_at(("b", "a", "c", "d"))
(('b', 'a', 'c', 'd'), 4, (('b', 'c'),), (2,))
>>> row.with_wish("c", "b").ring, row.exchanges(("b", "a", "c", "d"), ("b", "d", "a", "c"))[1]
(('a', 'c', 'b'), ('b', 'a', 'd', 'c'))
>>> from hookrow.plugintexts import read_plugin
>>> str(Plugin("dim", [Part("shade", ("ask", (), ("plus", "inner", 1), None), wraps=True, after=["a"])]))
'plugin dim\non shade wraps after a\nask giving inner + 1'
>>> read_plugin("plugin dim\non shade late late\n5")
raises InvalidText(1)
>>> from hookrow.running import run, trace
>>> host.add(Plugin("dim", [Part("shade", ("ask", (("size", ("plus", "size", 9)),), ("plus", "inner", 10), None), wraps=True)]))
>>> run(host, "shade", {"size": 4})
12
>>> trace(host, "shade", {"size": 4})[:2]
(('asked', 'dim', (4,)), ('asked', 'a', (13,)))
>>> from hookrow.results import parted, results
>>> free = host - "b"
>>> sorted([(result, number) for result, number, order in results(free, "shade", {"size": -5})])
[(11, 1), (12, 1)]
>>> parted(free, "shade", {"size": -5})[1], parted(host, "shade", {"size": -5})
(1, None)
>>> from hookrow.likeness import alike, quiet
>>> from hookrow.tables import sure, table
>>> sure(host, "shade"), quiet(host, "b")[0], alike(host, host - "b", "shade")["size"] <= 0
(None, 'shade', True)
>>> [case({"size": 3}) for case in table(Host([shade]), "shade") if {"size": 3} in case.calls]
[(None,)]
>>> host.keep("shade", {"size": -5}), host.kept(0)
(0, (11,))
>>> host.drop("b")
>>> host.changed, sorted(host.kept(0)), host.undo(), host.log()[-1][0]
((0,), [11, 12], True, 'add')
"""


def steps():
    """The pairs of a piece of code and what is told to come of it, or None."""
    lines = EXAMPLES.strip().split("\n")
    for at, line in enumerate(lines):
        if line.startswith(">>> "):
            behind = lines[at + 1] if at + 1 < len(lines) else ">>> "
            yield line[4:], None if behind.startswith(">>> ") else behind


class Examples(unittest.TestCase):
    def test_all(self):
        names = {}
        number = 0
        for code, expected in steps():
            with self.subTest(code):
                if expected is None:
                    exec(code, names)
                elif expected.startswith("raises "):
                    wrong = eval(expected[len("raises "):], dict(vars(errors)))
                    with self.assertRaises(type(wrong)) as caught:
                        eval(code, names)
                    self.assertEqual(vars(caught.exception), vars(wrong))
                else:
                    self.assertEqual(eval(code, names), eval(expected))
            number += 1
        self.assertEqual(number, 49)


if __name__ == "__main__":
    unittest.main()
