"""What stands in a house at a time, and all that follows from it."""

from leapwork.blocks import block_of, letters_of_text, numbered
from leapwork.books import fitting, notions_of
from leapwork.box import broken
from leapwork.floor import floor_of
from leapwork.goals import goals_of
from leapwork.judge import judged
from leapwork.notions import firm, places_fit
from leapwork.sites import called_in, sites_of
from leapwork.terms import notion_terms_in


class Known:
    """What was found once and holds for good, so that it isn't asked again after each deed.

    Goals follow from the text and from what it does and uses, the floor's
    papers from the bundle alone.
    """

    def __init__(self):
        self._goals = {}
        self._floors = {}

    def goals(self, book, name):
        """A text's goals, each with the key of its bundle, or None; they are for reading alone."""
        leans = [book[name]] + [book.get(other) for word, other in called_in(book[name]) if word != "notion"]
        if name not in self._goals or self._goals[name][0] != leans:
            goals = [] if book[name][0] == "notion" else goals_of(book, name)
            self._goals[name] = (leans, [(goal, None if goal[2] is None else key_of(goal[2])) for goal in goals])
        return self._goals[name][1]

    def has_floor(self, bundle, key):
        """Whether the floor has a paper of a bundle."""
        if key not in self._floors:
            self._floors[key] = floor_of(bundle) is not None
        return self._floors[key]


class Stand:
    """The texts and papers that stand; neither is changed, each deed makes a new one."""

    def __init__(self, texts, papers, floor, known):
        self.texts = texts
        # By the key of its bundle the bundle and the paper of it.
        self.papers = papers
        self._floor = floor
        self._known = known
        self._notions = notions_of(texts)
        self._firm = firm(self._notions)
        # By key and by name, where it was asked.
        self._settled = {}
        self._sound = {}

    def with_texts(self, texts):
        """The stand with other texts."""
        return Stand(texts, self.papers, self._floor, self._known)

    def with_papers(self, papers):
        """The stand with other papers."""
        return Stand(self.texts, papers, self._floor, self._known)

    def judged(self, bundle, paper):
        """The judge's word on a paper of a bundle."""
        return judged(bundle, self._notions, paper)

    def goals(self, name):
        """The goals of a text, each with the key of its bundle, or None; of a notion none."""
        return self._known.goals(self.texts, name)

    def bundles(self):
        """The bundles of all goals by their keys, in the order of names and goals."""
        found = {}
        for name in sorted(self.texts):
            for goal, key in self.goals(name):
                if key is not None:
                    found.setdefault(key, goal[2])
        return found

    def settled(self, name):
        """Of each goal of a text whether it is settled."""
        return [key is not None and self._is_settled(goal[2], key) for goal, key in self.goals(name)]

    def reaches(self, name):
        """The names that a text reaches, itself too, rising."""
        found = {name: True}
        todo = [name]
        while todo:
            text = self.texts.get(todo.pop())
            calls = [] if text is None else called_in(text)
            for _, other in calls:
                if other not in found:
                    found[other] = True
                    todo.append(other)
        return sorted(found)

    def told(self, name):
        """What is told of a text."""
        waits = [other for other in self.reaches(name) if other != name and not self._is_good(other)]
        if self.texts[name][0] == "notion":
            return ("firm",) if self._is_good(name) else ("open", [], waits or [name])
        if self._is_good(name):
            return ("let by",)
        found = broken(self.texts, name)
        if found is not None:
            return ("broken", *found)
        goals = [number for number, is_settled in enumerate(self.settled(name)) if not is_settled]
        return ("open", goals, waits if goals or waits else [name])

    def _is_good(self, name):
        """Whether a name, which may be absent, is that of a notion that stands firm, or of what is let by."""
        return all([self._is_sound(other) for other in self.reaches(name)])

    def _is_sound(self, name):
        """Whether what is let by may reach this name, which may be absent."""
        if name not in self._sound:
            if name not in self.texts or name in self._notions:
                self._sound[name] = name in self._firm
            else:
                self._sound[name] = self._fits(name) and self._has_all_settled(name)
        return self._sound[name]

    def _has_all_settled(self, name):
        """Whether all goals of a text are settled; the first that isn't says it."""
        for goal, key in self.goals(name):
            if key is None or not self._is_settled(goal[2], key):
                return False
        return True

    def _fits(self, name):
        """Whether a work or claim fits."""
        text = self.texts[name]
        calls = [statement for statement in numbered(block_of(text)) if statement[0] in ("do", "use")]
        if any([fitting(self.texts, text, statement) is None for statement in calls]):
            return False
        terms = [term for _, thing in sites_of(text) for term in notion_terms_in(thing)]
        return all([self._has_fitting_places(term) for term in terms])

    def _has_fitting_places(self, term):
        """Whether a notion's term names one that stands firm, and hands it places of its kinds."""
        _, name, places = term
        return name in self._firm and places_fit(places, letters_of_text(self.texts[name]))

    def _is_settled(self, bundle, key):
        """Whether a bundle has a paper that is right now, or one by the floor."""
        if key not in self._settled:
            self._settled[key] = self._has_right_paper(bundle, key) or (
                self._floor and self._known.has_floor(bundle, key))
        return self._settled[key]

    def _has_right_paper(self, bundle, key):
        """Whether a bundle has a paper that is right now."""
        return key in self.papers and self.judged(bundle, self.papers[key][1]) == ("right",)


def key_of(bundle):
    """The key of a bundle: bundles may be deeper than keys are."""
    return repr(bundle)
