"""A console: a workshop, told what to do by lines of text."""

from hullrests.errors import InvalidPhrase, NotAWorkshop
from hullrests.kinds import rim_fits
from hullrests.levers import word_at
from hullrests.phrases import log_text, read_phrase
from hullrests.rests import rests
from hullrests.rims import stand_ahead
from hullrests.workshops import Workshop


def _told_of(log, line, phrase):
    """The answer to a phrase that asks for something of a log."""
    word, _, rim = phrase
    if word == "log":
        return log_text(log)
    if word == "rests":
        return " ".join(rests(log))
    section, area, ballast = log
    if not rim_fits(section, rim):
        raise InvalidPhrase(line)
    return word_at(section, ballast, stand_ahead(section, area, rim))


class Console:
    """Says to a workshop what a line of text tells, and answers with a text."""

    def __init__(self, shop):
        if not isinstance(shop, Workshop):
            raise NotAWorkshop(shop)
        self.shop = shop

    def say(self, line):
        """The answer to a line."""
        phrase = read_phrase(line) if isinstance(line, str) else None
        if phrase is None:
            raise InvalidPhrase(line)
        word, name, told = phrase
        shop = self.shop
        if word == "names":
            return " ".join(shop.names) or "none"
        if word == "put":
            shop.put(name, told)
        elif word == "drop":
            shop.drop(name)
        elif word == "undo":
            shop.undo()
        else:
            return _told_of(shop.named(name), line, phrase)
        return "done"
