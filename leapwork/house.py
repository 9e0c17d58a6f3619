"""Houses: texts and papers that stand, and what is told of them."""

from leapwork.errors import Full, NoMark, NoName, NoPaper, NoText, Standing
from leapwork.judge import is_bundle
from leapwork.leaps import leap
from leapwork.machine import run_code
from leapwork.names import is_whole
from leapwork.papers import copied, has_word
from leapwork.stands import Known, Stand, key_of
from leapwork.texts import fault
from leapwork.walk import walk

_MOST_TEXTS = 18
_MOST_PAPERS = 40
_MOST_MARKS = 6


class House:
    """A house, with a floor or without."""

    def __init__(self, *, floor=True):
        self._stand = Stand({}, {}, floor, Known())
        self._marks = []

    def put(self, text):
        """Let a text stand: the bundles that are new; or NoText, Standing, Full."""
        _ask_text(text)
        if text[1] in self._stand.texts:
            raise Standing(text[1])
        if len(self._stand.texts) == _MOST_TEXTS:
            raise Full(_MOST_TEXTS)
        return self._go_to(self._stand.with_texts({**self._stand.texts, text[1]: text}))

    def swap(self, text):
        """Let a text stand for the one of its name: the bundles that are new; or NoText, NoName."""
        _ask_text(text)
        self._ask_name(text[1])
        return self._go_to(self._stand.with_texts({**self._stand.texts, text[1]: text}))

    def take_out(self, name):
        """Take a text out: the bundles that are new; or NoName."""
        self._ask_name(name)
        texts = {other: self._stand.texts[other] for other in self._stand.texts if other != name}
        return self._go_to(self._stand.with_texts(texts))

    def hand(self, bundle, paper):
        """Hand in a paper of a bundle: the judge's word; or NoPaper, Standing, Full."""
        if not is_bundle(bundle) or not has_word(paper):
            raise NoPaper("this is no paper of a bundle")
        key = key_of(bundle)
        if key in self._stand.papers:
            raise Standing(None)
        if len(self._stand.papers) == _MOST_PAPERS:
            raise Full(_MOST_PAPERS)
        word = self._stand.judged(bundle, paper)
        self._stand = self._stand.with_papers({**self._stand.papers, key: (list(bundle), copied(paper))})
        return word

    def drop(self, bundle):
        """Drop the paper of a bundle; or NoPaper."""
        gone = self._key_of_paper(bundle)
        papers = {key: self._stand.papers[key] for key in self._stand.papers if key != gone}
        self._stand = self._stand.with_papers(papers)

    def mark(self):
        """Mark what stands: how many marks stood; or Full."""
        if len(self._marks) == _MOST_MARKS:
            raise Full(_MOST_MARKS)
        self._marks.append(self._stand)
        return len(self._marks) - 1

    def back(self, number):
        """Go back to a mark: the bundles that are new; or NoMark."""
        if not is_whole(number) or not 0 <= number < len(self._marks):
            raise NoMark(number)
        self._marks = self._marks[:number + 1]
        return self._go_to(self._marks[number])

    def names(self):
        """The names of the texts, rising."""
        return sorted(self._stand.texts)

    def marks(self):
        """The numbers of the marks, rising."""
        return list(range(len(self._marks)))

    def papers(self):
        """The bundles that have papers, by repr."""
        return [list(self._stand.papers[key][0]) for key in sorted(self._stand.papers)]

    def text(self, name):
        """The text of a name; or NoName."""
        self._ask_name(name)
        return self._stand.texts[name]

    def paper(self, bundle):
        """The paper of a bundle; or NoPaper."""
        return copied(self._stand.papers[self._key_of_paper(bundle)][1])

    def goals(self, name):
        """The goals of a text, of a notion none; or NoName."""
        self._ask_name(name)
        return [_own_goal(goal) for goal, _ in self._stand.goals(name)]

    def reaches(self, name):
        """The names that a text reaches, rising; or NoName."""
        self._ask_name(name)
        return self._stand.reaches(name)

    def settled(self, name):
        """Of each goal of a text whether it is settled; or NoName."""
        self._ask_name(name)
        return self._stand.settled(name)

    def told(self, name):
        """What is told of a text: let by, broken, open, firm; or NoName."""
        self._ask_name(name)
        return self._stand.told(name)

    def run(self, name, inputs=(), *, ticks=2000, by="walk"):
        """Run a work or claim by "walk", "looked" or "bare"; or NoName, NoInputs, NoTicks."""
        if by == "walk":
            return walk(self._stand.texts, name, inputs, ticks=ticks)
        return run_code(self._stand.texts, name, inputs, ticks=ticks, looked=(by == "looked"))

    def leap(self, name, number, worths):
        """Try a goal out with worths; or NoName, NoGoal, NoWorths."""
        return leap(self._stand.texts, name, number, worths)

    def _go_to(self, stand):
        """Let a stand be the house's: the bundles that some goal has in it, and none had ahead."""
        ahead, behind = self._stand.bundles(), stand.bundles()
        self._stand = stand
        return [list(behind[key]) for key in behind if key not in ahead]

    def _ask_name(self, name):
        """NoName where nothing stands under anything."""
        if not isinstance(name, str) or name not in self._stand.texts:
            raise NoName(name)

    def _key_of_paper(self, bundle):
        """The key of a bundle that has a paper; or NoPaper."""
        if not is_bundle(bundle) or key_of(bundle) not in self._stand.papers:
            raise NoPaper("no paper stands there")
        return key_of(bundle)


def _own_goal(goal):
    """A goal once more, its bundle the asker's own."""
    way, look, bundle, letters = goal
    return way, look, None if bundle is None else list(bundle), letters


def _ask_text(text):
    """NoText where anything is no text."""
    word = fault(text)
    if word is not None:
        raise NoText(word)
