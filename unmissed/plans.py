"""Plans of silent days and trials: which ones are enough, and which is the cheapest."""

from unmissed.coming import MOST_ROWS
from unmissed.errors import BadOffers, BadTruth
from unmissed.fitting import shows_cannot, told_fault
from unmissed.harming import first_hurt, past_to_try, shows_course_of_hurt, shows_harmless, shows_harms, told_harm
from unmissed.pasts import Past, lives_of_somes, longest_beginning, past_that_can_be
from unmissed.reports import days_of, is_plan
from unmissed.values import check_door, is_integer

MOST_OFFERS = 5
HIGHEST_PRICE = 99


def past_with(past, plan):
    """The past of the history and of a plan behind it."""
    return Past(past.book, past.door, past.reports + plan, past.members)


def told_enough(whole):
    """What enough tells, whole being the past of the history with the plan."""
    fault = told_fault(whole, lives_of_somes(whole))
    if fault is not None:
        return "heard", fault
    word, shown = told_harm(whole)
    return "enough" if word == "harmless" else "broken", shown


def enough(book, door, history, plan):
    """What shows whether the door can be shut behind a plan, should nothing be heard on its days."""
    return told_enough(past_with(past_to_try(book, door, history, plan), plan))


def can_be_silent(whole):
    """Whether a history with a plan behind it can be."""
    return longest_beginning(whole, lives_of_somes(whole)) == len(whole.reports)


def shows_told(whole, value):
    """Whether any value is such a result as enough tells, whole being the past of the history with the plan."""
    if not isinstance(value, tuple) or len(value) != 2:
        return False
    word, shown = value
    if word == "heard":
        return isinstance(shown, tuple) and shows_cannot(whole, shown)
    if not can_be_silent(whole):
        return False
    if word == "enough":
        return shows_harmless(whole, shown)
    return word == "broken" and shows_harms(whole, shown)


def shows_enough(book, door, history, plan, value):
    """Whether any value is such a result as enough tells."""
    return shows_told(past_with(past_to_try(book, door, history, plan), plan), value)


def is_offer(book, value):
    """Whether any value is (plan, price)."""
    if not isinstance(value, tuple) or len(value) != 2:
        return False
    plan, price = value
    return is_plan(book, plan) and is_integer(price) and 0 <= price <= HIGHEST_PRICE


class Market:
    """Offers behind a history."""

    def __init__(self, book, door, history, offers, gentle):
        """Raises what cheapest raises ahead of all looks at offers."""
        check_door(book, door)
        reports = days_of(book, history)
        if not isinstance(offers, tuple) or len(offers) > MOST_OFFERS:
            raise BadOffers(offers)
        if not all([is_offer(book, offer) for offer in offers]):
            raise BadOffers(offers)
        if not isinstance(gentle, bool):
            raise BadTruth(gentle)
        self.past = past_that_can_be(book, door, reports)
        self.plans = [plan for plan, _ in offers]
        self.wholes = [past_with(self.past, plan) for plan in self.plans]
        self.gentle = gentle
        # The numbers of the offers, in the sequence in which they are looked at.
        self.numbers = [number for _, number in sorted([(price, at) for at, (_, price) in enumerate(offers)])]

    def cheapest(self):
        """What cheapest tells."""
        reasons = []
        for number in self.numbers:
            told = told_enough(self.wholes[number])
            if told[0] == "broken":
                reasons.append((number,) + told)
                continue
            course = first_hurt(self.past, self.plans[number], MOST_ROWS) if self.gentle else None
            if course is None:
                return "plan", number, told, tuple(reasons)
            reasons.append((number, "hurts", course))
        return "none", tuple(reasons)

    def shows_reason(self, number, value):
        """Whether any value is a reason why this offer is not told."""
        if not isinstance(value, tuple) or len(value) != 3 or value[0] != number or not is_integer(value[0]):
            return False
        if value[1] == "broken":
            return shows_told(self.wholes[number], value[1:])
        if value[1] != "hurts" or not self.gentle:
            return False
        return shows_course_of_hurt(self.past, self.plans[number], value[2])

    def shows_reasons(self, many, value):
        """Whether any value has the reasons why the first so many offers that are looked at are not told."""
        if not isinstance(value, tuple) or len(value) != many:
            return False
        return all([self.shows_reason(number, reason) for number, reason in zip(self.numbers, value)])

    def shows_plan(self, number, told, reasons):
        """Whether any values tell the cheapest offer."""
        if not is_integer(number) or number not in self.numbers:
            return False
        if not self.shows_reasons(self.numbers.index(number), reasons):
            return False
        if not shows_told(self.wholes[number], told) or told[0] == "broken":
            return False
        return not self.gentle or first_hurt(self.past, self.plans[number]) is None


def cheapest(book, door, history, offers, *, gentle=False):
    """The cheapest offer whose plan is enough, and gentle if this is wanted; or why none is."""
    return Market(book, door, history, offers, gentle).cheapest()


def shows_cheapest(book, door, history, offers, value, *, gentle=False):
    """Whether any value is such a result as cheapest tells."""
    market = Market(book, door, history, offers, gentle)
    if not isinstance(value, tuple):
        return False
    if len(value) == 4 and value[0] == "plan":
        return market.shows_plan(value[1], value[2], value[3])
    return len(value) == 2 and value[0] == "none" and market.shows_reasons(len(offers), value[1])
