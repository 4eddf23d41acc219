"""Sheets: answers that are kept together with their questions, so that they can be checked again."""

from stopsfirst.basics import is_sequence, is_tuple_of, is_word
from stopsfirst.bending import Bent
from stopsfirst.changes import Journey, goes_between, is_way, told_masks
from stopsfirst.derived import derive, is_step_of
from stopsfirst.errors import InvalidQuestion, Refused, StopError
from stopsfirst.evidence import is_verdict, verdict
from stopsfirst.losses import check_lots, fence_holds, leads_within, lies_under, limited_plan, limited_tops
from stopsfirst.others import Contest
from stopsfirst.potentials import cheapest_evidence, is_cheapest_evidence
from stopsfirst.prices import Prices
from stopsfirst.primes import follow_paper, is_follow_paper
from stopsfirst.reach import distances, shortest_plan, shows_unreached
from stopsfirst.safe import is_safety_evidence, safety_evidence
from stopsfirst.searching import climb_layers, find_climb, shows_no_climb


def sheet_holds(book, value):
    if not is_tuple_of(value, 3) or not is_kind(value[0]) or not is_question(value[0], value[1]):
        return False
    holds = HOLDERS[value[0]]
    try:
        return holds(book, value[1], value[2])
    except StopError:
        return False


def is_kind(value):
    return any([is_word(value, word) for word in SIZES])


def is_question(kind, value):
    """Whether any value is a tuple of as many things as a kind of sheet asks about."""
    return is_tuple_of(value, SIZES[kind])


def sheet(book, kind, question):
    if not is_kind(kind):
        raise Refused(0)
    if not is_question(kind, question):
        raise Refused(1)
    answer = ANSWERERS[kind]
    return (kind, copied_lists(question), answer(book, question))


def copied_lists(value):
    """A value that later changes to the lists in it do not change."""
    if isinstance(value, list):
        return [copied_lists(thing) for thing in value]
    if isinstance(value, tuple):
        return tuple([copied_lists(thing) for thing in value])
    return value


def wrong_sheets(book, values):
    if not is_sequence(values):
        raise InvalidQuestion(0)
    return tuple([at for at, value in enumerate(values) if not sheet_holds(book, value)])


def kept_sheets(works, values):
    if not is_sequence(values):
        raise InvalidQuestion(1)
    return tuple([copied_lists(value) for value in values if sheet_holds(works.current, value)])


def is_told(value, word):
    """Whether any value is a pair of a word and something."""
    return is_tuple_of(value, 2) and is_word(value[0], word)


def court_holds(book, question, value):
    return is_verdict(book, value)


def court_answer(book, question):
    return verdict(book)


def rule_holds(book, question, value):
    return is_follow_paper(book, question[0], value)


def rule_answer(book, question):
    return follow_paper(book, question[0])


def climb_holds(book, question, value):
    if is_told(value, "layers"):
        return shows_no_climb(book, question[0], value[1])
    return is_told(value, "climb") and is_climb_of(book, question[0], value[1])


def is_climb_of(book, plan, value):
    try:
        Bent(book, plan, value)
    except Refused:
        return False
    return True


def climb_answer(book, question):
    bent = find_climb(book, question[0])
    return ("layers", climb_layers(book, question[0])) if bent is None else ("climb", bent.climb)


def reach_holds(book, question, value):
    start, goal, batches = question
    if is_told(value, "closed"):
        return shows_unreached(book, start, goal, batches, value[1])
    journey = Journey(book, batches, (start, goal))
    return is_told(value, "plan") and is_plan_by(journey, journey.leads, value[1])


def is_plan_by(journey, table, value):
    """Whether any value is a tuple that is a plan from the first to the last state by changes of a table."""
    masks = told_masks(journey.field, value)
    return masks is not None and goes_between(journey.ends, masks) and is_way(table, masks)


def reach_answer(book, question):
    start, goal, batches = question
    plan = shortest_plan(book, start, goal, batches)
    if plan is not None:
        return ("plan", plan)
    return ("closed", tuple([state for state, _ in distances(book, start, batches)]))


def kinds_holds(book, question, value):
    return is_step_of(value, book)


def kinds_answer(book, question):
    step = derive(book)
    if step is None:
        raise Refused(2)
    return step


def fence_sheet_holds(book, question, value):
    batches, start, goal, stops, starts = question
    journey = Journey(book, batches, (start, goal))
    check_lots(book, (stops, starts))
    if is_told(value, "plan"):
        masks = journey.field.masks
        return is_plan_by(journey, leads_within(journey, masks[stops], masks[starts]), value[1])
    if not is_told(value, "fence") or not fence_holds(book, batches, start, stops, starts, value[1]):
        return False
    return not lies_under(goal, value[1], stops)


def fence_answer(book, question):
    batches, start, goal, stops, starts = question
    plan = limited_plan(book, batches, start, goal, stops, starts)
    if plan is not None:
        return ("plan", plan)
    return ("fence", limited_tops(book, batches, start, stops, starts))


def price_holds(book, question, value):
    batches, prices, start, goal = question
    return isinstance(prices, Prices) and is_cheapest_evidence(book, batches, prices, start, goal, value)


def price_answer(book, question):
    batches, prices, start, goal = question
    return cheapest_evidence(book, batches, prices, start, goal)


def safe_holds(book, question, value):
    batches, goals, state = question
    return is_safety_evidence(Contest(book, batches, goals), state, value)


def safe_answer(book, question):
    batches, goals, state = question
    return safety_evidence(Contest(book, batches, goals), state)


SIZES = {"court": 0, "rule": 1, "climb": 1, "reach": 3, "kinds": 0, "fence": 5, "price": 4, "safe": 3}

HOLDERS = {
    "court": court_holds,
    "rule": rule_holds,
    "climb": climb_holds,
    "reach": reach_holds,
    "kinds": kinds_holds,
    "fence": fence_sheet_holds,
    "price": price_holds,
    "safe": safe_holds,
}

ANSWERERS = {
    "court": court_answer,
    "rule": rule_answer,
    "climb": climb_answer,
    "reach": reach_answer,
    "kinds": kinds_answer,
    "fence": fence_answer,
    "price": price_answer,
    "safe": safe_answer,
}
