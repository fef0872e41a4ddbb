"""Sessions: a notice that lives, changed by deeds, while questions about it are watched and held."""

from swaphouse.audits import result_for
from swaphouse.deeds import check_deed, kept_deed, notice_behind, watched_behind
from swaphouse.errors import BadQuestion, BadSession, InUse, NoCount, WouldChange
from swaphouse.given import is_number
from swaphouse.markets import Market
from swaphouse.notices import Notice
from swaphouse.questions import answer_to, is_question_of
from swaphouse.whychanged import why_changed


class State:
    """What a session is at a time: its notice, and what is watched of it; it never changes."""

    def __init__(self, notice, watched):
        self._notice = notice
        self._watched = watched

    def notice(self):
        return self._notice

    def watched(self):
        """The list of pairs (question, whether it is held)."""
        return list(self._watched)

    def answers(self):
        """The list of triples (question, its answer, whether it is held)."""
        return [(question, answer_to(self._notice, question), held) for question, held in self._watched]

    def __eq__(self, other):
        return isinstance(other, State) and self._notice == other._notice and self._watched == other._watched


def state_behind(state, deed):
    """The pair of a deed as it is kept and of the state behind it; its errors, but for what would change."""
    check_deed(state.notice(), state.watched(), deed)
    kept = kept_deed(deed)
    notice = notice_behind(state.notice(), kept)
    for question, _ in state.watched():
        if not is_question_of(notice, question):
            raise InUse(question)
    return (kept, State(notice, watched_behind(state.watched(), kept)))


def changes_to(state, notice):
    """The list of quadruples (question, ahead, behind, whether it is held) of what the notice answers otherwise."""
    told = [(question, ahead, answer_to(notice, question), held) for question, ahead, held in state.answers()]
    return [change for change in told if change[1] != change[2]]


class Session:
    """A market that is edited by deeds, which can be taken back."""

    def __init__(self, rule):
        # All deeds, those too that were taken back, and the states ahead of and behind each; no list is changed.
        self._states = [State(Notice(rule, Market([], {}), []), [])]
        self._deeds = []
        self._done = 0

    def _state(self):
        return self._states[self._done]

    def _past(self, number):
        """The state behind so many deeds, and the deeds and states up to it."""
        return (self._states[:number + 1], self._deeds[:number])

    def _take(self, states, deeds, done):
        self._states = states
        self._deeds = deeds
        self._done = done

    def rule(self):
        return self._state().notice().rule()

    def now(self):
        return self._state().notice().market()

    def needs(self):
        return self._state().notice().needs()

    def notice(self):
        return Notice(self.rule(), self.now(), self.needs())

    def watched(self):
        return self._state().answers()

    def do(self, deed):
        kept, behind = state_behind(self._state(), deed)
        changes = changes_to(self._state(), behind.notice())
        for question, ahead, now, held in changes:
            if held:
                raise WouldChange(question, why_changed(behind.notice(), question, ahead, now))
        states, deeds = self._past(self._done)
        self._take(states + [behind], deeds + [kept], self._done + 1)
        return [(question, ahead, now) for question, ahead, now, _ in changes]

    def would(self, deed):
        _, behind = state_behind(self._state(), deed)
        return [(question, ahead, now) for question, ahead, now, _ in changes_to(self._state(), behind.notice())]

    def is_question(self, thing):
        return is_question_of(self._state().notice(), thing)

    def answer(self, question):
        if not self.is_question(question):
            raise BadQuestion(question)
        return answer_to(self._state().notice(), question)

    def result(self):
        return result_for(self._state().notice())

    def count(self):
        return self._done

    def deeds(self):
        return self._deeds[:self._done]

    def undo(self):
        if self._done == 0:
            return None
        self._done -= 1
        return self._deeds[self._done]

    def again(self):
        if self._done == len(self._deeds):
            return None
        self._done += 1
        return self._deeds[self._done - 1]

    def at(self, number):
        if not is_number(number) or number > self._done:
            raise NoCount(number)
        told = Session(self.rule())
        states, deeds = self._past(number)
        told._take(states, deeds, number)
        return told

    def copy(self):
        told = Session(self.rule())
        told._take(self._states, self._deeds, self._done)
        return told

    def trial(self, work):
        states = self._states
        deeds = self._deeds
        done = self._done
        try:
            return work(self)
        finally:
            self._states = states
            self._deeds = deeds
            self._done = done

    def __eq__(self, other):
        return isinstance(other, Session) and self._state() == other._state()


def session_of(notice, watched):
    """A session that has just this notice and what is watched of it, no deed done."""
    session = Session(notice.rule())
    session._take([State(notice, watched)], [], 0)
    return session


def check_session(session):
    if not isinstance(session, Session):
        raise BadSession(session)
