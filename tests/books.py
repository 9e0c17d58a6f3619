"""Books out of writings."""

from leapwork.texts import fault
from leapwork.writing import read


def text_of(writing):
    text = read(" ".join(writing.split()).replace("( ", "(").replace(" )", ")"))
    assert fault(text) is None, (fault(text), writing)
    return text


def book_of(*writings):
    texts = [text_of(writing) for writing in writings]
    return {text[1]: text for text in texts}


def work(name="w", letters="(a number)", own="(x number) (y number)", result="number", needs="", gives="", spends="(num 9)",
         block="(give (num 0))"):
    return f"(work {name} ({letters}) ({own}) {result} ({needs}) ({gives}) {spends} ({block}))"


def claim(name="c", letters="(a number)", needs="", gives="", spends="(num 9)", block=""):
    return f"(claim {name} ({letters}) ({needs}) ({gives}) {spends} ({block}))"


# The triangle numbers; 0 at 0 and below. A notion that doesn't stand firm.
TRI = "(notion tri 0 ((n number)) (num 0) (add (name n) (notion tri ((add (name n) (num -1))))))"
LOOSE = "(notion loose 0 ((n number)) (num 0) (notion tri ((name n))))"
# Sayings without a worth, and with one.
NOT_KNOWN = "(le (notion none ((num 0))) (num 0))"
NO, YES = "(le (num 1) (num 0))", "(le (num 0) (num 1))"
# A term without a worth.
NO_WORTH = "(notion none ((num 0)))"
