"""Views: their names, their widths, what is refused of them, their sizes."""

from viewkeep.errors import NoName, NoPlace, Twice, Unlike, Wide
from viewkeep.exprs import expression_size, places_in

MOST_CELLS = 12
OVER_ONE = ("sieve", "cols", "once", "count", "sum", "least", "most", "first")
PAIRED = ("join", "left", "notin")
GROUPS = ("count", "sum", "least", "most")
OF_ONE_WIDTH = ("pour", "both", "either", "less")


def is_name(thing):
    if not isinstance(thing, str) or not 1 <= len(thing) <= 8:
        return False
    return all(["a" <= sign <= "z" for sign in thing])


def views_in(V):
    # For words other than name.
    if V[0] == "rounds":
        return [V[3], V[4]]
    if V[0] in OVER_ONE:
        return [V[1]]
    return [V[1], V[2]]


def names_in(V):
    if V[0] == "name":
        return [V[1]]
    names = []
    for view in views_in(V):
        names.extend(names_in(view))
    # The name of rounds is no table's or view's.
    return [name for name in names if V[0] != "rounds" or name != V[1]]


def besides_of(V):
    # For words other than name and rounds, whose views stand straight behind the word.
    return V[1 + len(views_in(V)):]


def width_over(word, besides, inner):
    if word == "cols":
        return len(besides[0])
    if word in ("join", "left"):
        return inner[0] + inner[1]
    if word in GROUPS:
        return len(besides[-1]) + 1
    return inner[0]


def look(V, widths):
    if V[0] == "name":
        width = name_width(V[1], widths)
    elif V[0] == "rounds":
        width = rounds_width(V, widths)
    else:
        inner = [look(view, widths) for view in views_in(V)]
        check_places(V, inner)
        if V[0] in OF_ONE_WIDTH:
            check_alike(inner[0], inner[1])
        width = width_over(V[0], besides_of(V), inner)
    if width > MOST_CELLS:
        raise Wide("a view has more than twelve cells in a row")
    return width


def name_width(name, widths):
    if name not in widths:
        raise NoName("a view speaks of a name that is not known")
    return widths[name]


def rounds_width(V, widths):
    if V[1] in widths:
        raise Twice("the name of rounds is known already")
    width = look(V[3], widths)
    check_alike(width, look(V[4], with_name(widths, V[1], width)))
    return width


def with_name(known, name, thing):
    wider = dict(known)
    wider[name] = thing
    return wider


def check_alike(one, other):
    if one != other:
        raise Unlike("two views that are to be of one width are not")


def check_places(V, inner):
    for i, place in places_of(V):
        if place >= inner[i]:
            raise NoPlace("a place is not below the width of its view")


def places_of(V):
    if V[0] in PAIRED:
        places = []
        for p, q in V[3]:
            places.extend([(0, p), (1, q)])
        return places
    return [(0, place) for place in own_places(V)]


def own_places(V):
    word = V[0]
    if word == "sieve":
        return places_in(V[2])
    if word == "cols":
        # All columns together hold their places like the parts of one column.
        return places_in((word,) + V[2])
    if word == "count":
        return list(V[2])
    if word in GROUPS:
        return [V[2]] + list(V[3])
    if word == "first":
        return list(V[3]) + [p for p, rising in V[4]]
    return []


def size(V, sizes):
    if V[0] == "name":
        return sizes[V[1]]
    if V[0] == "rounds":
        return size(V[3], sizes) + V[2] * (2 + size(V[4], with_name(sizes, V[1], 1)))
    return 1 + sum([size(view, sizes) for view in views_in(V)]) + besides_size(V)


def besides_size(V):
    word = V[0]
    if word == "sieve":
        return expression_size(V[2])
    if word == "cols":
        return sum([expression_size(E) for E in V[2]])
    if word in PAIRED:
        return len(V[3])
    if word in GROUPS:
        return len(V[-1])
    if word == "first":
        return len(V[3]) + len(V[4])
    return 0
