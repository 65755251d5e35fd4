"""Pages with scripts, by chance, whose events do much and come to faults now and then."""

WHOS = ["this", "target", "#a", "#b", "#c", "#gone"]
WORTHS = ["x", "id", "class", "look", "on-click", "cap-click", "on-ping", "name", "on"]
TEXTS = ['""', '"a"', '"b c"', '"<p id=\'d\'>e"', '"one <b>two</b>"', '"go"', '"hi"', '"color: red"', '"display: block"',
         '"x </b> y"', '"no"', '"a"', '"b"', '"c"', '"width: 5; border: 1"']
PARTS = ["1", "2", "-3", "20", "999999999", "x", "y", "z", "sign", "x", "y", "z", *TEXTS, *TEXTS]
EVENTS = ["click", "ping", "key", "back", "pong"]
BROKEN = ["loop", "let sign 3", "say", "else", "end", "add this", "say  1", "cut this now", "if", "send this click"]


def chance_part(chance):
    kind = chance.randrange(6)
    if kind == 0:
        return f"{chance.choice(('wide', 'high', 'left', 'top'))} {chance.choice(WHOS)}"
    if kind == 1:
        return f"worth {chance.choice(WHOS)} {chance.choice(WORTHS)}"
    if kind == 2:
        return f"look {chance.choice(WHOS)} {chance.choice(('color', 'width', 'display', 'width', 'colour'))}"
    return chance.choice(PARTS)


def chance_term(chance):
    kind = chance.random()
    if kind < 0.5:
        return chance_part(chance)
    if kind < 0.7:
        numbers = ["x", "z", "1", "-7", "wide #a", "top this", "high target", "left #b"]
        return f"{chance.choice(numbers)} {chance.choice('+-<')} {chance.choice(numbers)}"
    return f"{chance_part(chance)} {chance.choice('=&&&' if kind < 0.95 else '+-<')} {chance_part(chance)}"


def chance_rows(chance, many, deep):
    rows = []
    for _ in range(many):
        kind = chance.randrange(14)
        who = chance.choice(WHOS[:2] if chance.random() < 0.5 else WHOS)
        if kind < 3:
            rows.append(f"let {chance.choice('xyz')} {chance_term(chance)}")
        elif kind < 5:
            rows.append(f"say {chance_term(chance)}")
        elif kind == 5:
            rows.append(f"mark {who} {chance.choice(WORTHS)} {chance_term(chance)}")
        elif kind == 6:
            rows.append(f"add {who} {chance_term(chance)}")
        elif kind == 7:
            rows.append(chance.choice((f"text {who} {chance_term(chance)}", f"unmark {who} {chance.choice(WORTHS)}")))
        elif kind == 8:
            rows.append(chance.choice((f"cut {who}", f"text {who} {chance_term(chance)}")))
        elif kind == 9:
            rows.append(chance.choice(("stop", "prevent", "", "  ")))
        elif kind == 10:
            rows.append(f"send {chance.choice(EVENTS)} {who}")
        elif kind == 11 and deep < 3:
            rows.append(f"if {chance_term(chance)}")
            rows.extend(chance_rows(chance, chance.randint(0, 3), deep + 1))
            if chance.random() < 0.5:
                rows.append("else")
                rows.extend(chance_rows(chance, chance.randint(0, 3), deep + 1))
            rows.append("end")
        elif kind == 12 and deep < 3:
            rows.append(f"loop {chance.choice(('0', '1', '2', '3', '20', '2', chance_term(chance)))}")
            rows.extend(chance_rows(chance, chance.randint(0, 3), deep + 1))
            rows.append("end")
        elif chance.random() < 0.05:
            rows.append(chance.choice(BROKEN))
    return rows


def chance_script(chance, name):
    ahead = ["let x 1", 'let y "b"', "let z 3"] if chance.random() < 0.95 else []
    code = "\n".join(ahead + chance_rows(chance, chance.randint(0, 7), 0))
    return f'<script name="{name}">{code}</script>'


def chance_event_page(chance):
    pieces = [chance_script(chance, name) for name in ("go", "hi", "", "no", "go")[:chance.randint(1, 5)]]
    names = ["a", "b", "c"]
    for tag in ("p", "b", "check", "field", "em", "list"):
        if chance.random() < 0.75:
            worths = ""
            for key in ("cap-click", "on-click", "on-ping", "on-key", "cap-ping", "on-back"):
                if chance.random() < 0.5:
                    worths += f' {key}="{chance.choice(("go", "hi", "go", "", "no", "none"))}"'
            if names and chance.random() < 0.8:
                worths += f' id="{names.pop()}"'
            pieces.append(f"<{tag}{worths}>" + chance.choice(("", "x", "some words", "x<b>y</b>")))
            if chance.random() < 0.4:
                pieces.append(f"</{tag}>")
    chance.shuffle(pieces)
    return "".join(pieces)
