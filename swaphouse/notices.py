"""Notices: a market, the rule it goes by, and the needs."""

from swaphouse.errors import BadNeeds, BadNotice, BadRule
from swaphouse.given import first_wrong, is_list, is_one_of
from swaphouse.markets import Market, check_market

RULES = ("rings", "pairs", "shares")


def needs_fault(people, needs):
    """The index of the first thing that is wrong in a list of all people, how many it has if some lack, or None."""
    if not is_list(needs):
        return 0
    wrong = first_wrong(needs, lambda name: name in people)
    if wrong is None and len(needs) < len(people):
        return len(needs)
    return wrong


class Notice:
    """A rule, a market, and by the rule "pairs" the needs: all people, the neediest first."""

    def __init__(self, rule, market, needs):
        if not is_one_of(rule, RULES):
            raise BadRule(rule)
        check_market(market)
        wrong = needs_fault(market.people() if rule == "pairs" else [], needs)
        if wrong is not None:
            raise BadNeeds(wrong)
        self._rule = rule
        self._market = market
        self._needs = list(needs)

    def rule(self):
        return self._rule

    def market(self):
        return Market(self._market.people(), self._market.wishes())

    def needs(self):
        return list(self._needs)

    def __eq__(self, other):
        if not isinstance(other, Notice) or self._rule != other._rule:
            return False
        return self._market == other._market and self._needs == other._needs


def check_notice(notice):
    if not isinstance(notice, Notice):
        raise BadNotice(notice)
