"""The grammar of [5] as rules, and a slow reader of any such rules.

It shares nothing with the package, so that the two can be held against each other.
The bounds of brackets and tokens, and unlike names, are not in these rules.
"""

# A digit behind a name stands for what an EXPR may hold: 0 no calls and no fn, 1 no calls, 2 all.
EXPRESSIONS = """
E{m} -> OR{m}
OR{m} -> AND{m} | OR{m} or AND{m}
AND{m} -> NOT{m} | AND{m} and NOT{m}
NOT{m} -> not NOT{m} | COMPARED{m}
COMPARED{m} -> SUM{m} | SUM{m} == SUM{m} | SUM{m} < SUM{m} | SUM{m} <= SUM{m}
SUM{m} -> PRODUCT{m} | SUM{m} + PRODUCT{m} | SUM{m} - PRODUCT{m}
PRODUCT{m} -> NEGATIVE{m} | PRODUCT{m} * NEGATIVE{m}
NEGATIVE{m} -> - NEGATIVE{m} | CALL{m}
CALL{m} -> SINGLE{m} | CALL{m} . NAME | CALL{m} [ E{m} ]
SINGLE{m} -> NAME | NUMBER | TEXT | none | true | false | ( E{m} ) | [ ] | [ LIST{m} ]
SINGLE{m} -> [ E{m} for NAME in E{m} ] | [ E{m} for NAME in E{m} if E{m} ]
LIST{m} -> E{m} | LIST{m} , E{m}
"""

# A digit behind a name tells whether break and continue may stand.
STATEMENTS = """
BLOCK{m} -> { } | { BODY{m} }
BODY{m} -> STATEMENT{m} | BODY{m} STATEMENT{m}
STATEMENT{m} -> TARGETS = E2 ; | DEF | global NAMES ; | nonlocal NAMES ; | IF{m}
STATEMENT{m} -> while E2 BLOCK1 | for NAME in E2 BLOCK1 | return ; | return E2 ; | pass ; | E2 ;
IF{m} -> if E2 BLOCK{m} | if E2 BLOCK{m} else BLOCK{m} | if E2 BLOCK{m} else IF{m}
"""

REST = """
START -> | MODULE
MODULE -> TOP | MODULE TOP
TOP -> import NAME ; | import NAME as NAME ; | from NAME import * ; | from NAME import ITEMS ;
TOP -> NAME = E1 ; | DEF | CLASS
ITEMS -> ITEM | ITEMS , ITEM
ITEM -> NAME | NAME as NAME
DEF -> def NAME ( ) BLOCK0 | def NAME ( PARAMETERS ) BLOCK0
PARAMETERS -> NAMES | DEFAULTS | NAMES , DEFAULTS
DEFAULTS -> NAME = E0 | DEFAULTS , NAME = E0
NAMES -> NAME | NAMES , NAME
CLASS -> class NAME CLASSBODY | class NAME ( NAME ) CLASSBODY | class NAME ( NAME . NAME ) CLASSBODY
CLASSBODY -> { } | { MEMBERS }
MEMBERS -> MEMBER | MEMBERS MEMBER
MEMBER -> DEF | NAME = E1 ;
TARGETS -> TARGET | TARGETS , TARGET
TARGET -> NAME | CALL2 . NAME
STATEMENT1 -> break ; | continue ;
E1 -> fn : E2 | fn PARAMETERS : E2
E2 -> fn : E2 | fn PARAMETERS : E2
CALL2 -> CALL2 ( ) | CALL2 ( ARGUMENTS )
ARGUMENTS -> LIST2 | KEYWORDS | LIST2 , KEYWORDS
KEYWORDS -> NAME = E2 | KEYWORDS , NAME = E2
"""


def read_rules(text):
    """A dict from what is replaced to the list of what replaces it, lists of words."""
    rules = {}
    for line in [line for line in text.split("\n") if line]:
        left, right = line.split(" ->")
        rules.setdefault(left, []).extend([tuple(one.split()) for one in right.split(" | ")])
    return rules


def put(text, word):
    return text.replace("{m}", word)


RULES = read_rules(
    put(EXPRESSIONS, "0") + put(EXPRESSIONS, "1") + put(EXPRESSIONS, "2") + put(STATEMENTS, "0") + put(STATEMENTS, "1") + REST
)
TERMINALS = sorted({word for rows in RULES.values() for row in rows for word in row if word not in RULES})


def first_wrong(words):
    """The index of the first word that can stand in no text there, the count of words if one is missing, or None."""
    columns = [{("GOAL", ("START",), 0, 0)}]
    for at in range(len(words) + 1):
        following = set()
        todo = list(columns[at])
        if not todo:
            return at - 1
        while todo:
            left, row, done, begin = todo.pop()
            if done == len(row):
                found = [(a, b, c + 1, d) for a, b, c, d in columns[begin] if c < len(b) and b[c] == left]
            elif row[done] in RULES:
                found = [(row[done], one, 0, at) for one in RULES[row[done]]]
            else:
                found = []
                if at < len(words) and words[at] == row[done]:
                    following.add((left, row, done + 1, begin))
            new = [one for one in found if one not in columns[at]]
            columns[at].update(new)
            todo.extend(new)
        columns.append(following)
    whole = ("GOAL", ("START",), 1, 0) in columns[len(words)]
    return None if whole else len(words)


def shortest_depths():
    """How deep a replacement must be at least, by what is replaced."""
    depths = {}
    while len(depths) < len(RULES):
        for left, rows in RULES.items():
            for row in rows:
                if left not in depths and all(word in depths or word not in RULES for word in row):
                    depths[left] = 1 + max([depths.get(word, 0) for word in row], default=0)
    return depths


DEPTHS = shortest_depths()


def invent(random, left, depth):
    """The words of a random text, not much deeper than this."""
    if left not in RULES:
        return [left]
    rows = RULES[left]
    if depth <= 0:
        rows = [row for row in rows if max([DEPTHS.get(word, 0) for word in row], default=0) < DEPTHS[left]]
    return [word for one in random.choice(rows) for word in invent(random, one, depth - 1)]
