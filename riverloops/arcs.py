"""Arcs on one bank of the river: told by lists, written by words, turned, mirrored and put together."""

from riverloops.errors import NoArcs, NotRead, TooMany, Unlike

MOST_ARCS = 20


def is_arcs(some):
    return is_length(len(some)) and all_lead_back(some) and none_cross(some)


def is_length(bridges):
    return bridges % 2 == 0 and bridges >= 2 and bridges <= 2 * MOST_ARCS


def all_lead_back(some):
    for here in range(len(some)):
        if not leads_back(some, here):
            return False
    return True


def leads_back(some, here):
    there = some[here]
    # As an index a number below nought would count from the list's end, and pass for a bridge.
    if there < 0 or there >= len(some):
        return False
    return there != here and some[there] == here


# Only for lists in which all arcs lead back: there an arc that ends has begun, so one is waiting.
def none_cross(some):
    waiting = []
    for here, there in enumerate(some):
        if there > here:
            waiting.append(here)
        elif waiting.pop() != there:
            return False
    return True


def refuse_no_arcs(some, called="the list"):
    if not is_arcs(some):
        raise NoArcs(f"{called} tells no arcs")


def refuse_no_rows(one, other):
    refuse_no_arcs(one, "the first list")
    refuse_no_arcs(other, "the second list")


def refuse_unlike(one, other):
    refuse_no_rows(one, other)
    if len(one) != len(other):
        raise Unlike("the two lists tell arcs of unlike numbers")


def refuse_too_many(bridges):
    if bridges > 2 * MOST_ARCS:
        raise TooMany(f"there would be more than {MOST_ARCS} arcs")


def join_bridges(arcs, here, there):
    arcs[here] = there
    arcs[there] = here


def in_one_row(one, other):
    return one + [len(one) + there for there in other]


def word_of(arcs):
    refuse_no_arcs(arcs)
    return "".join(["(" if there > here else ")" for here, there in enumerate(arcs)])


def arcs_of(word):
    if not is_length(len(word)):
        raise NotRead(f"a word has two signs for each arc, of which there are 1 to {MOST_ARCS}")
    arcs = [0 for sign in word]
    waiting = []
    for here, sign in enumerate(word):
        if sign == "(":
            waiting.append(here)
        elif sign == ")" and len(waiting) > 0:
            join_bridges(arcs, waiting.pop(), here)
        else:
            raise NotRead(f"the sign at place {here} belongs to no arc")
    if len(waiting) > 0:
        raise NotRead("an arc of the word doesn't end")
    return arcs


def turned(arcs, by):
    refuse_no_arcs(arcs)
    bridges = len(arcs)
    return [(arcs[(here - by) % bridges] + by) % bridges for here in range(bridges)]


def mirrored(arcs):
    refuse_no_arcs(arcs)
    last = len(arcs) - 1
    return [last - there for there in reversed(arcs)]


def beside(one, other):
    refuse_no_rows(one, other)
    refuse_too_many(len(one) + len(other))
    return in_one_row(one, other)


def covered(arcs):
    refuse_no_arcs(arcs)
    refuse_too_many(len(arcs) + 2)
    return [len(arcs) + 1] + [there + 1 for there in arcs] + [0]
