"""Views written as texts."""

from viewkeep.views import PAIRED, views_in


def shown(V):
    if V[0] == "name":
        return V[1]
    if V[0] == "rounds":
        return bracketed([V[0], V[1], str(V[2]), shown(V[3]), shown(V[4])])
    return bracketed([V[0]] + [shown(view) for view in views_in(V)] + besides_words(V))


def bracketed(words):
    return "(" + " ".join(words) + ")"


def besides_words(V):
    word = V[0]
    if word == "sieve":
        return [shown_expression(V[2])]
    if word == "cols":
        return [shown_expression(E) for E in V[2]]
    if word in PAIRED:
        return [f"#{p}=#{q}" for p, q in V[3]]
    if word == "count":
        return by_words(V[2])
    if word in ("sum", "least", "most"):
        return [place_word(V[2])] + by_words(V[3])
    if word == "first":
        return [str(V[2])] + by_words(V[3]) + ["order"] + [order_word(p, rising) for p, rising in V[4]]
    return []


def by_words(by):
    return ["by"] + [place_word(p) for p in by]


def place_word(p):
    return f"#{p}"


def order_word(p, rising):
    return f"+{p}" if rising else f"-{p}"


def shown_expression(expression):
    word = expression[0]
    if word == "at":
        return place_word(expression[1])
    if word == "num":
        return str(expression[1])
    if word == "gap":
        return word
    return bracketed([word] + [part_word(part) for part in expression[1:]])


def part_word(part):
    # Behind a word stand columns and tests, and the written number of times, part and rest.
    return shown_expression(part) if isinstance(part, tuple) else str(part)
