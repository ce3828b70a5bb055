"""Books: a rule and a worth that are edited, back and again."""

from loneseats.errors import BadEdit, NoEnd, Nothing, Wrong
from loneseats.kinds import is_size
from loneseats.rules import Rule
from loneseats.worths import Worth

RULE_WORDS = ("sizes", "bad", "soft", "where", "offer")
WORTH_WORDS = ("price", "free", "until")
# These words stand ahead of two things, the others ahead of one.
WORDS_OF_TWO = ("bad", "price")


def _is_edit_by_form(thing):
    """Whether thing, any value, is a tuple of a word of edits and as many things as it has."""
    if not isinstance(thing, tuple) or len(thing) == 0 or not isinstance(thing[0], str):
        return False
    if thing[0] not in RULE_WORDS and thing[0] not in WORTH_WORDS:
        return False
    return len(thing) == (3 if thing[0] in WORDS_OF_TWO else 2)


def _edited_rule(rule, edit):
    """The rule behind an edit, or the error of the rule for things that it does not take."""
    word = edit[0]
    if word == "sizes":
        return rule.with_sizes(edit[1])
    if word == "bad":
        return rule.with_bad(edit[1], edit[2])
    if word == "soft":
        return rule.with_soft(edit[1])
    if word == "where":
        return rule.with_where(edit[1])
    if word == "offer":
        return rule.with_offer(edit[1])
    return rule


def _edited_worth(worth, edit):
    """The worth behind an edit, or the error of the worth for things that it does not take."""
    word = edit[0]
    if word == "price":
        if not is_size(edit[1]):
            raise BadEdit()
        prices = worth.prices()
        prices[edit[1]] = edit[2]
        return Worth(prices, worth.free, until=worth.until)
    if word == "free":
        return Worth(worth.prices(), edit[1], until=worth.until)
    if word == "until":
        return Worth(worth.prices(), worth.free, until=edit[1])
    return worth


def _told_edit(edit, rule):
    """The edit as it is told, rule being the one behind it: sizes and lengths as ascending tuples, each once."""
    if edit[0] == "sizes":
        return "sizes", rule.sizes
    if edit[0] == "bad":
        return "bad", edit[1], tuple(rule.bad_at(edit[1]))
    return edit


class Book:
    """A rule and a worth, the edits of them that stand, and those that were undone."""

    def __init__(self, rule, worth):
        if not isinstance(rule, Rule):
            raise Wrong(0)
        if not isinstance(worth, Worth):
            raise Wrong(1)
        self._log = []
        self._undone = []
        # What stands behind each beginning of the log, so that an edit can be undone at once.
        self._rules = [rule]
        self._worths = [worth]

    @property
    def rule(self):
        """The rule now."""
        return self._rules[-1]

    @property
    def worth(self):
        """The worth now."""
        return self._worths[-1]

    def __eq__(self, other):
        return (isinstance(other, Book) and self._rules[0] == other._rules[0] and self._worths[0] == other._worths[0]
                and self._log == other._log)

    def __len__(self):
        return len(self._log)

    def __iter__(self):
        return iter(self._log)

    def _do(self, edit):
        """Does an edit, any value, or raises an error for what is none."""
        if not _is_edit_by_form(edit):
            raise BadEdit()
        try:
            rule = _edited_rule(self._rules[-1], edit)
            worth = _edited_worth(self._worths[-1], edit)
        except (NoEnd, Wrong):
            raise BadEdit()
        self._log.append(_told_edit(edit, rule))
        self._rules.append(rule)
        self._worths.append(worth)

    def do(self, edit):
        """Does an edit."""
        self._do(edit)
        self._undone = []

    def back(self):
        """Undoes the last edit that stands, and returns it."""
        if not self._log:
            raise Nothing()
        edit = self._log.pop()
        self._rules.pop()
        self._worths.pop()
        self._undone.append(edit)
        return edit

    def again(self):
        """Does the edit again that was undone last, and returns it."""
        if not self._undone:
            raise Nothing()
        edit = self._undone.pop()
        self._do(edit)
        return edit

    def log(self):
        """The edits that stand, in order."""
        return list(self._log)

    def copied(self):
        """A book that goes on by itself, with what can be done again."""
        other = Book(self._rules[0], self._worths[0])
        other._log = list(self._log)
        other._undone = list(self._undone)
        other._rules = list(self._rules)
        other._worths = list(self._worths)
        return other
