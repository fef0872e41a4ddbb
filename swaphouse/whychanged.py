"""Why a held question would be answered otherwise."""

from swaphouse.needy import needy_pairing
from swaphouse.parties import firm_pairing, party
from swaphouse.pointing import all_rings
from swaphouse.rings import rounds
from swaphouse.whynot import why_left


def why_changed(notice, question, ahead, behind):
    """Why a question is answered otherwise by the notice behind a deed."""
    market = notice.market()
    which = question[0]
    if notice.rule() == "pairs" and which == "served":
        return why_left(market, notice.needs(), question[1]) if ahead else needy_pairing(market, notice.needs())
    if which == "gets":
        return all_rings(rounds(market))
    if which == "firm":
        return party(market) if ahead else firm_pairing(market)
    return (ahead, behind)
