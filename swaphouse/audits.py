"""Results and papers audited against a notice, and right ones."""

from swaphouse.needy import left_papers
from swaphouse.notices import check_notice
from swaphouse.noticetexts import notice_fault, read_notice
from swaphouse.paperaudits import audit_paper
from swaphouse.papertexts import paper_fault
from swaphouse.parties import party
from swaphouse.pointing import all_rings, rings_of
from swaphouse.resultaudits import audit_result
from swaphouse.resulttexts import read_result, result_fault
from swaphouse.rightresults import right_result
from swaphouse.rings import rounds

WHICH = ("notice", "result", "paper")


def result_for(notice):
    check_notice(notice)
    return right_result(notice)


def paper_for(notice):
    check_notice(notice)
    market = notice.market()
    if notice.rule() == "rings":
        return ("rings", all_rings(rounds(market)))
    if notice.rule() == "shares":
        return ("rings", rings_of(party(market)))
    papers = left_papers(market, notice.needs())
    return ("blocks", papers) if papers else ("rings", [])


def audit(notice_text, result_text, paper_text):
    forms = [notice_fault(notice_text), result_fault(result_text), paper_fault(paper_text)]
    for which, fault in zip(WHICH, forms):
        if fault is not None:
            line, sign = fault
            return (which, line, sign, "form")
    notice = read_notice(notice_text)
    which = "result"
    wrong = audit_result(notice, result_text)
    if wrong is None:
        which = "paper"
        wrong = audit_paper(notice, read_result(result_text), paper_text)
    if wrong is None:
        return None
    line, sign, why = wrong
    return (which, line, sign, why)
