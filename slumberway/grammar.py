"""The grammar of texts, as a table that the reader goes by.

A rule's alternatives are tuples of symbols. A symbol is the name of a rule; a word that a lexeme or mark
goes by; ("many", ..), as often as wanted; or ("maybe", ..), once or not. No alternative is empty or begins
with "many" or "maybe", and no two of one rule begin with the same word: so the next lexeme tells which is meant.
"""

RULES = {
    "text": (("open", "line", ("many", "item", "line"), "shut"),),
    "line": (("data line",), ("equation",)),
    "data line": (("data", "maker", ("many", "name"), "=", "made", ("many", "|", "made")),),
    "made": (("maker", ("many", "kindleaf")),),
    "kind": (("kindcall", ("maybe", "->", "kind")),),
    "kindcall": (("kind with parts",), ("small kind",)),
    "kindleaf": (("kind without parts",), ("small kind",)),
    "kind with parts": (("maker", ("many", "kindleaf")),),
    "kind without parts": (("maker",),),
    "small kind": (("name",), ("(", "kind", ")")),
    "equation": (("name", ("many", "leaf"), "sides"),),
    "sides": (("=", "expr"), ("guarded side", ("many", "guarded side"))),
    "guarded side": (("|", "expr", "=", "expr"),),
    "pattern": (("pattern with parts",), ("small pattern",)),
    "leaf": (("pattern without parts",), ("small pattern",)),
    "pattern with parts": (("maker", ("many", "leaf")),),
    "pattern without parts": (("maker",),),
    "small pattern": (("name",), ("_",), ("number",), ("(", "pattern", ")")),
    "expr": (("function",), ("bound",), ("choosing",), ("choosing by cases",), ("comparing",)),
    "function": (("fun", "name", ("many", "name"), "->", "expr"),),
    "bound": (("let", "open", "equation", ("many", "item", "equation"), "shut", "in", "expr"),),
    "choosing": (("if", "expr", "then", "expr", "else", "expr"),),
    "choosing by cases": (("case", "expr", "of", "open", "choice", ("many", "item", "choice"), "shut"),),
    "choice": (("pattern", "choice sides"),),
    "choice sides": (("->", "expr"), ("guarded choice side", ("many", "guarded choice side"))),
    "guarded choice side": (("|", "expr", "->", "expr"),),
    "comparing": (("sum", ("maybe", "comparing sign", "sum")),),
    "comparing sign": (("<",), ("==",)),
    "sum": (("product", ("many", "sum sign", "product")),),
    "sum sign": (("+",), ("-",)),
    "product": (("call", ("many", "*", "call")),),
    "call": (("atom", ("many", "atom")),),
    "atom": (("name",), ("maker",), ("number",), ("(", "expr", ")")),
}


def first_words(symbol):
    """Tell the list of the words with which a rule may begin; of a word, itself."""
    if symbol not in RULES:
        return [symbol]
    told = []
    for alternative in RULES[symbol]:
        told.extend(first_words(alternative[0]))
    return told


def all_first_words():
    """Tell a dict from the rules to the words with which they may begin."""
    return {rule: first_words(rule) for rule in RULES}
