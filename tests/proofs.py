"""Papers made of a few nodes told, with the floor's behind them; and a book whose texts are let by with such papers."""

from books import TRI, book_of, claim, work
from leapwork.floor import floor_of
from leapwork.judge import more_at


def paper_of(bundle, notions, *nodes):
    """A paper that goes through these nodes, told without papers, and has the floor's behind them; None where that fails."""
    if not nodes:
        return floor_of(bundle)
    alike = nodes[0][0] == "alike"
    many = {"cases": 2, "take": 3, "put": 2, "write": 2, "unfold": 2}.get(nodes[0][0], 1)
    children = more_at(bundle, notions, nodes[0] + (((None,) * 2,) if alike else (None,) * many))
    if children is None:
        return None
    papers = tuple(paper_of(bundle + child, notions, *nodes[1:]) for child in children)
    return None if None in papers else nodes[0] + ((papers,) if alike else papers)


def terms_in(thing, words):
    """The terms of these words in a thing, outer ones ahead."""
    if not isinstance(thing, tuple):
        return []
    return [thing] * (thing[:1] in [(word,) for word in words]) + [term for part in thing for term in terms_in(part, words)]


def nodes_for(bundle):
    """Some nodes that may help with a bundle, one list after another."""
    unfolds = [("unfold", term) for saying in bundle[::-1] for term in terms_in(saying, ["notion"])]
    sizes = [("size", term[1]) for saying in bundle[::-1] for term in terms_in(saying, ["size"])]
    writes = [("write", term) for saying in bundle[::-1] for term in terms_in(saying, ["read"]) if term[1][0] == "with"]
    alls = [("take", at) for at, saying in enumerate(bundle) if saying[0] == "all"]
    reads = [term for saying in bundle[::-1] for term in terms_in(saying, ["read"])]
    for some in (unfolds, sizes, writes):
        for one in dict.fromkeys(some):
            yield (one,)
    for term in dict.fromkeys(term for saying in bundle for term in terms_in(saying, ["mod"])):
        yield (("floor", term),)
    terms = list(dict.fromkeys(node[1] for node in unfolds))
    for one in terms:
        for other in terms:
            if one != other and len(one[2]) == 1:
                yield (("alike", one, other),)
    yield tuple(dict.fromkeys(sizes))
    for at in alls:
        for read in dict.fromkeys(reads):
            yield (at + (read[2],),)


def settle(house, name, notions):
    """Hand the house papers for the goals of a text that aren't settled; whether all are then."""
    for (_, _, bundle, _), is_settled in zip(house.goals(name), house.settled(name)):
        if not is_settled and bundle is not None and bundle not in house.papers():
            for nodes in nodes_for(bundle):
                paper = paper_of(bundle, notions, *nodes)
                if paper is not None:
                    house.hand(bundle, paper)
                    break
    return all(house.settled(name))


TO_N = """(while (le (add (name i) (num 1)) (name n))
  ((le (num 0) (name i)) (le (name i) (name n)) (eq (name x) (notion tri ((name i)))) (eq (name left) (add (name n) (mul -1 (name i)))))
  ((set i (add (name i) (num 1))) (set x (add (name x) (name i)))))"""
GOOD = (
    TRI,
    # The sum up to n, by rounds, and by itself.
    work("rounds", "(n number)", "(x number) (i number)", needs="(le (num 0) (name n))", gives="(eq (name given) (notion tri ((name n))))",
         spends="(name n)", block=f"{TO_N} (give (name x))"),
    work("self", "(n number)", "(x number)", needs="(le (num 0) (name n))", gives="(eq (name given) (notion tri ((name n))))",
         spends="(name n)", block="""(if (le (name n) (num 0)) ((give (num 0))) ())
           (do x self ((add (name n) (num -1)))) (give (add (name x) (name n)))"""),
    # That it isn't below nought, which both are asked for one behind the other.
    claim("above", "(n number)", needs="(le (num 0) (name n))", gives="(le (num 0) (notion tri ((name n))))", spends="(name n)",
          block="(if (le (name n) (num 0)) () ((use above ((add (name n) (num -1))))))"),
    work("both", "(n number)", "(x number) (y number)", needs="(le (num 1) (name n))", gives="(le (num 0) (name given))",
         spends="(add (mul 2 (name n)) (num 3))", block="""(do x rounds ((name n))) (do y self ((add (name n) (num -1))))
           (use above ((name n))) (use above ((add (name n) (num -1)))) (give (name x))"""),
    # The sum of a row; a place of a row; a row; a rest.
    work("total", "(r row)", "(x number) (i number)", spends="(size (row r))", gives="(le (num 0) (num 0))", block="""
      (while (le (add (name i) (num 1)) (size (row r)))
        ((le (num 0) (name i)) (le (name i) (size (row r))) (eq (name left) (add (size (row r)) (mul -1 (name i)))))
        ((set x (add (name x) (read (row r) (name i)))) (set i (add (name i) (num 1))))) (give (name x))"""),
    work("write", "(r row) (a number) (b number)", "(s row)", needs="(le (num 0) (name a)) (le (add (name a) (num 1)) (size (row r)))",
         gives="(eq (name given) (name b))", spends="(num 0)", block="(row s (row r)) (put s (name a) (name b)) (give (read (row s) (name a)))"),
    work("fill", "(a number)", "(s row) (i number)", "row", needs="(le (num 0) (name a))", gives="(eq (size (row given)) (name a))",
         spends="(name a)", block="""(row s (room (name a)))
      (while (le (add (name i) (num 1)) (name a))
        ((le (num 0) (name i)) (eq (name left) (add (name a) (mul -1 (name i)))) (eq (size (row s)) (name a)) (le (name i) (name a)))
        ((put s (name i) (name i)) (set i (add (name i) (num 1))))) (give (row s))"""),
    work("rest", "(a number)", "(x number)", gives="(eq (name given) (mod (name a) 5))", spends="(num 0)",
         block="(if (eq (mod (name a) 5) (num 0)) ((give (num 0))) ()) (set x (add (name a) (mul -5 (div (name a) 5)))) (give (name x))"),
)


def good_book():
    return book_of(*GOOD)
