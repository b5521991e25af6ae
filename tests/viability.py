"""Another reader of texts of bodies for the tests: the grammar as a table, and which words can follow."""

import re

GRAMMAR = {
    "whole": [
        ["leaf"], ["'none'"], ["'fail'", "NAME"], ["'if'", "test", "'then'", "whole", "'else'", "whole"],
        ["'ask'", "'giving'", "part"], ["'ask'", "'giving'", "part", "'failing'", "part"],
        ["'ask'", "'with'", "sends", "'giving'", "part"],
        ["'ask'", "'with'", "sends", "'giving'", "part", "'failing'", "part"],
    ],
    "part": [["leaf"], ["'none'"], ["'fail'", "NAME"], ["'if'", "test", "'then'", "part", "'else'", "part"]],
    "sent": [["leaf"], ["'if'", "test", "'then'", "sent", "'else'", "sent"]],
    "sends": [["send"], ["sends", "','", "send"]],
    "send": [["LEFT", "'='", "sent"]],
    "leaf": [["NUMBER"], ["QUOTED"], ["PARAM"], ["PARAM", "'+'", "ADDED"], ["PARAM", "'-'", "TAKEN"]],
    "test": [
        ["PARAM", "'<='", "NUMBER"], ["PARAM", "'is'", "QUOTED"], ["'not'", "test"],
        ["'both'", "test", "'and'", "test"], ["'either'", "test", "'or'", "test"], ["'unanswered'"],
    ],
}
KEPT = "if then else not both and either or is none fail ask with giving failing inner unanswered".split()
PATTERNS = {
    "NAME": "[a-z]{1,8}",
    "QUOTED": "'[a-z]{1,8}",
    "LEFT": "(?!(%s)$)[a-z]{1,8}" % "|".join(KEPT),
    "PARAM": "inner|(?!(%s)$)[a-z]{1,8}" % "|".join(KEPT),
    "NUMBER": "0|-?[1-9][0-9]{0,8}",
    "ADDED": "0|[1-9][0-9]{0,8}",
    "TAKEN": "[1-9][0-9]{0,8}",
}


def matches(symbol, word):
    if symbol in PATTERNS:
        return re.fullmatch(PATTERNS[symbol], word) is not None
    return symbol == f"'{word}'"


def closed(columns, items):
    """All items of the column that begins with these (Earley's way; no rule of the grammar is empty)."""
    column, todo = set(), list(items)
    while todo:
        item = todo.pop()
        if item in column:
            continue
        column.add(item)
        head, rule, dot, start = item
        body = GRAMMAR[head][rule]
        if dot == len(body):
            for head, rule, dot, before in columns[start]:
                wanted = GRAMMAR[head][rule]
                if dot < len(wanted) and wanted[dot] == item[0]:
                    todo.append((head, rule, dot + 1, before))
        elif body[dot] in GRAMMAR:
            todo.extend((body[dot], at, 0, len(columns)) for at in range(len(GRAMMAR[body[dot]])))
    return column


def first_fault(text):
    """What `read_body` tells of a text: None if there is a body, else the index."""
    columns = []
    columns.append(closed(columns, [("whole", at, 0, 0) for at in range(len(GRAMMAR["whole"]))]))
    words = text.split(" ")
    for at, word in enumerate(words):
        moved = []
        for head, rule, dot, start in columns[-1]:
            body = GRAMMAR[head][rule]
            if dot < len(body) and body[dot] not in GRAMMAR and matches(body[dot], word):
                moved.append((head, rule, dot + 1, start))
        if not moved:
            return at
        columns.append(closed(columns, moved))
    for head, rule, dot, start in columns[-1]:
        if head == "whole" and start == 0 and dot == len(GRAMMAR[head][rule]):
            return None
    return len(words)
