"""Sessions as texts: the notice's text, then what is watched and held."""

from swaphouse.noticetexts import NoticeReader, notice_text
from swaphouse.questions import all_questions, is_question_by
from swaphouse.sessions import check_session, session_of
from swaphouse.textreading import check_text

WORDS = ("watch", "hold")


def question_line(word, question):
    return " ".join([word] + list(question))


class SessionReader:
    """A reader, as textreading.py tells, of the lines of a session."""

    def __init__(self):
        self._reader = NoticeReader()
        # By question that is watched, whether it is held.
        self._held = {}

    def take(self, line):
        if not self._held and self._reader.take(line):
            return True
        word, _, told = line.partition(" ")
        question = tuple(told.split(" "))
        if not self.whole() or word not in WORDS or question in self._held:
            return False
        if not is_question_by(self._reader.rule(), self._reader.people(), question):
            return False
        self._held[question] = word == "hold"
        return True

    def line_on(self, part):
        line = None if self._held else self._reader.line_on(part)
        if line is not None or not self.whole():
            return line
        for question in all_questions(self._reader.rule(), self._reader.people()):
            for word in WORDS:
                told = question_line(word, question)
                if told.startswith(part) and question not in self._held:
                    return told
        return None

    def whole(self):
        return self._reader.whole()

    def session(self):
        return session_of(self._reader.notice(), list(self._held.items()))


def write_session(session):
    check_session(session)
    lines = [question_line("hold" if held else "watch", question) for question, _, held in session.watched()]
    return notice_text(session.notice()) + "".join([line + "\n" for line in lines])


def read_session(text):
    reader = SessionReader()
    check_text(text, reader)
    return reader.session()
