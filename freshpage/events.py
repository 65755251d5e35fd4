"""Events: handlers run along the way to the target, then the event's own deed, then the events that were sent."""

from freshpage.errors import NoNode, NotFormed, NotTag, TooLarge
from freshpage.pages import Page
from freshpage.rooms import WIDTH
from freshpage.runs import Run, Script
from freshpage.words import is_word

MOST_EVENTS = 8
MOST_ROWS = 400
OWN_TAGS = {"click": "check", "key": "field", "back": "field"}


class Far(Exception):
    """One event or row more than there may be would begin."""


class Event:
    """An event: its kind, its target as it is watched, its sign, and what the handlers said of it."""

    def __init__(self, kind, target, sign):
        self.kind = kind
        self.target = target
        self.sign = sign
        self.is_stopped = False
        self.is_prevented = False


class Happening:
    """All that an event brings about at a page: what is told of it, the events to come, and how much was begun."""

    def __init__(self, page):
        self.page = page
        self.outcome = []
        self.coming = []
        # By their texts the scripts that were read, as handlers are mostly run more than once.
        self.scripts = {}
        self.events = 0
        self.rows = 0

    def send(self, kind, node):
        """An event of no sign is put behind those to come."""
        self.coming.append(Event(kind, self.page.watch(node), ""))

    def begin_row(self):
        """One row more begins."""
        if self.rows == MOST_ROWS:
            raise Far("too many rows")
        self.rows += 1

    def begin_event(self, event):
        """One event more begins."""
        if self.events == MOST_EVENTS:
            raise Far("too many events")
        if self.events > 0:
            self.outcome.append(("event", event.kind, event.target.number))
        self.events += 1

    def go(self):
        """All events, in their order."""
        while self.coming:
            event = self.coming.pop(0)
            if event.target.number is not None:
                self.begin_event(event)
                self.handle(event)
                if event.target.number is not None and not event.is_prevented:
                    self.do_own(event.kind, event.target.number, event.sign)
            # The tags on the way need not be watched any longer.
            self.page.watched = [one.target for one in self.coming]

    def handle(self, event):
        """The handlers of an event, on the way to its target and back."""
        way = [self.page.watch(node) for node in self.page.way_to(event.target.number)]
        for side, tags in (("cap", way), ("on", way[::-1])):
            for tag in tags:
                if tag.number is not None and not event.is_stopped:
                    self.handle_at(event, side, tag)

    def handle_at(self, event, side, tag):
        """The handler that a tag on the way names, if there is one."""
        name = self.page.places[tag.number].worths.get(f"{side}-{event.kind}")
        script = None if name is None else self.page.first_tag("name", name, "script")
        if script is not None:
            self.outcome.append(("run", name, side, tag.number))
            code = self.page.signs_within(script)
            if code not in self.scripts:
                self.scripts[code] = Script(code)
            fault = Run(self, event, tag, self.scripts[code]).go()
            if fault is not None:
                self.outcome.append(("fault", name, fault))

    def do_own(self, kind, target, sign):
        """The own deed of an event of a kind, if it has one, at the nearest tag that it wants."""
        node = self.page.nearest(target, OWN_TAGS.get(kind, ""))
        if node is None:
            return
        try:
            if kind == "click":
                self.switch(node)
            else:
                signs = self.page.signs_within(node)
                self.page.set_text(node, signs + sign if kind == "key" else signs[:-1])
        except (NotTag, NotFormed, TooLarge):
            return
        self.outcome.append(("own", kind, node))

    def switch(self, node):
        """A check gets the worth on, or loses it."""
        if "on" in self.page.places[node].worths:
            self.page.drop_worth(node, "on")
        else:
            self.page.put_worth(node, "on", "yes")


def fired(tree, looks, kind, node, *, sign="", width=WIDTH):
    """The tree that an event leaves, and its outcome."""
    page = Page(tree, looks, width)
    outcome = fire_at(page, kind, node, sign)
    return page.tree, outcome


def fire_at(page, kind, node, sign):
    """The outcome of an event at a page, which changes it."""
    if node < 0 or node >= len(page.places):
        raise NoNode("no node has this number")
    if page.places[node].name is None:
        raise NotTag("an event is fired at a tag")
    if not is_word(kind) or len(sign) > 1:
        raise NotFormed("this is no kind, or more than one sign")
    happening = Happening(page)
    happening.coming.append(Event(kind, page.watch(node), sign))
    try:
        happening.go()
    except Far:
        happening.outcome.append(("far",))
    page.watched = []
    return happening.outcome
