"""Reads a text in another way than the program, sign by sign, to compare the two."""

import re

WORD = "[a-z][a-z-]{0,11}"
BEGIN = re.compile(f'<({WORD})((?: {WORD}="[^"]*")*)>')
WORTH = re.compile(f' ({WORD})="([^"]*)"')
END = re.compile(f"</({WORD})>")
WRITTEN = re.compile("&(lt|gt|amp|quot);")
PLAIN = {"lt": "<", "gt": ">", "amp": "&", "quot": '"'}


def plain(text):
    return WRITTEN.sub(lambda found: PLAIN[found[1]], text)


def tag(name, worths, first):
    return {"name": name, "worths": worths, "children": [], "first": first, "behind": None}


def add(parent, sign, first, behind):
    if not parent["children"] or "signs" not in parent["children"][-1]:
        parent["children"].append({"signs": "", "first": first})
    text = parent["children"][-1]
    text["signs"] += sign
    text["behind"] = behind


def begun(path, found):
    worths = {}
    for name, value in WORTH.findall(found[2]):
        if name not in worths:
            worths[name] = plain(value)
    child = tag(found[1], tuple(worths.items()), found.start())
    path[-1]["children"].append(child)
    path.append(child)


def ended(path, found):
    if found[1] not in [node["name"] for node in path[1:]]:
        return
    while path[-1]["name"] != found[1]:
        path.pop()["behind"] = found.start()
    path.pop()["behind"] = found.end()


def page_of(text):
    path = [tag("page", (), 0)]
    at = 0
    while at < len(text):
        if path[-1]["name"] == "script" and not text.startswith("</script>", at):
            add(path[-1], text[at], at, at + 1)
            at += 1
        elif found := BEGIN.match(text, at):
            begun(path, found)
            at = found.end()
        elif found := END.match(text, at):
            ended(path, found)
            at = found.end()
        elif found := WRITTEN.match(text, at):
            add(path[-1], PLAIN[found[1]], at, found.end())
            at = found.end()
        else:
            add(path[-1], text[at], at, at + 1)
            at += 1
    page = path[0]
    while path:
        path.pop()["behind"] = len(text)
    return page


def tree_of(node):
    if "signs" in node:
        return ("text", node["signs"])
    return ("tag", node["name"], node["worths"], tuple(tree_of(child) for child in node["children"]))


def stretches_of(node):
    told = [(node["first"], node["behind"])]
    for child in node.get("children", []):
        told.extend(stretches_of(child))
    return told
