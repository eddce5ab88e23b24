"""The desk: a house that is told rows, texts, and answers each with a text (point 102)."""

from redo.booktexts import recipe_or_none, shown_book
from redo.errors import BadLine, NoRow
from redo.house import House
from redo.reasons import reason_for
from redo.reports import log_text, paper_by, paper_texts, reason_text, result_text
from redo.stamps import is_figures, value_by
from redo.values import is_name

OK = "ok"
# What is told where there is nothing to tell, and what stands for lines or turns of none.
NOTHING = "-"
BETWEEN = "; "
MOST_FIGURES_OF_A_TURN = 4
# By the first word of a row, the kinds of what stands behind it; the last one takes all that is left.
FORMS = {
    "tell": ("name", "value"), "make": ("name", "recipe"), "strike": ("name",), "ask": ("names",),
    "weave": ("turns", "names"), "why": ("name",), "audit": (), "sweep": ("names",), "paper": ("names",),
    "check": ("lines",), "take": ("lines",), "book": (), "log": (), "untold": (),
}


# What stands behind the first word of a row, by the kinds of its form; None where the row is none.

def given_by(row):
    form = FORMS.get(row.split(" ", 1)[0])
    if form is None:
        return None
    # Split once at least, so that words too many are seen where none is due.
    words = row.split(" ", max(len(form), 1))
    if len(words) != 1 + len(form):
        return None
    given = [thing_of(kind, word) for kind, word in zip(form, words[1:])]
    return None if any([thing is None for thing in given]) else given


def thing_of(kind, text):
    if kind == "name":
        return text if is_name(text) else None
    if kind == "value":
        return value_by(text)
    if kind == "recipe":
        return recipe_or_none(text)
    if kind == "names":
        return names_by(text)
    return turns_by(text) if kind == "turns" else lines_by(text)


def names_by(text):
    names = text.split(" ")
    return names if all([is_name(name) for name in names]) else None


def turns_by(text):
    if text == NOTHING:
        return []
    turns = text.split(",")
    return [int(turn) for turn in turns] if all([is_turn(turn) for turn in turns]) else None


def is_turn(text):
    return len(text) <= MOST_FIGURES_OF_A_TURN and is_figures(text)


def lines_by(text):
    if text == NOTHING:
        return []
    try:
        return paper_by(text.split(BETWEEN))
    except BadLine:
        return None


# The answers: each is asked of a house, by what stands behind the row's first word.

def answer_tell(house, given):
    house.tell(given[0], given[1])
    return OK


def answer_make(house, given):
    house.make(given[0], given[1])
    return OK


def answer_strike(house, given):
    house.strike(given[0])
    return OK


def answer_ask(house, given):
    return listed([result_text(result) for result in house.ask(given[0])])


def answer_weave(house, given):
    return listed([result_text(result) for result in house.weave(given[1], given[0])])


def answer_why(house, given):
    return reason_text(reason_for(house.book(), house.held(), given[0]))


def answer_audit(house, given):
    return named(house.audit())


def answer_sweep(house, given):
    house.sweep(given[0])
    return OK


def answer_paper(house, given):
    return listed(paper_texts(house.paper(given[0])))


def answer_check(house, given):
    return "lets by" if house.check(given[0]) else "not"


def answer_take(house, given):
    house.take(given[0])
    return OK


def answer_book(house, given):
    return listed(shown_book(house.book()))


def answer_log(house, given):
    return listed([log_text(row) for row in house.log()])


def answer_untold(house, given):
    return named(sorted(set([row[1] for row in house.log() if row[0] == "untold"])))


def listed(texts):
    return BETWEEN.join(texts) if len(texts) > 0 else NOTHING


def named(names):
    return " ".join(names) if len(names) > 0 else NOTHING


ANSWERS = {
    "tell": answer_tell, "make": answer_make, "strike": answer_strike, "ask": answer_ask, "weave": answer_weave,
    "why": answer_why, "audit": answer_audit, "sweep": answer_sweep, "paper": answer_paper, "check": answer_check,
    "take": answer_take, "book": answer_book, "log": answer_log, "untold": answer_untold,
}


class Desk:
    def __init__(self):
        self.house = House()

    def say(self, row):
        # The row is read to its end ahead of all else, so one that is none has changed nothing.
        given = given_by(row)
        if given is None:
            raise NoRow("the desk knows no such row")
        return ANSWERS[row.split(" ", 1)[0]](self.house, given)
