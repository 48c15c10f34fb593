"""A second reading of the grammar, straight from the rules of the document.

bad_token(tokens) tells with which token no file can go on. All rules can be fulfilled, so rows of
tokens can go on as long as some rule is still under way.
"""

RULES = {
    "file": [["imports", "parts", "doc"]],
    "imports": [[], ["'import", "name", "imports"]],
    "parts": [[], ["template", "parts"], ["list", "parts"]],
    "doc": [[], ["'document", "dbody"]],
    "template": [["'template", "name", "dbody"], ["'template", "name", "'=", "name", "obody"]],
    "list": [["'list", "name", "'(", "fields", "')", "'[", "items", "']"]],
    "fields": [[], ["field", "more"]],
    "more": [[], ["',", "field", "more"]],
    "field": [["name", "':", "'number"], ["name", "':", "'text"]],
    "items": [[], ["item", "items"]],
    "item": [["'{", "pairs", "'}"]],
    "pairs": [[], ["name", "':", "literal", "pairs"]],
    "dbody": [["'{", "dentries", "'}"]],
    "dentries": [[], ["dentry", "dentries"]],
    "dentry": [["'let", "name", "':", "plain"], ["name", "':", "plain"], ["name", "':", "loop"]],
    "plain": [["literal"], ["'new", "name", "maybe"], ["choice"], ["sum"]],
    "maybe": [[], ["obody"]],
    "obody": [["'{", "oentries", "'}"]],
    "oentries": [[], ["oentry", "oentries"]],
    "oentry": [["name", "':", "ovalue"]],
    "ovalue": [["literal"], ["choice"], ["sum"], ["obody"]],
    "literal": [["digits"], ["'-", "digits"], ["string"]],
    "loop": [["'for", "name", "'in", "name", "where", "'give", "name", "maybe"]],
    "where": [[], ["'where", "path", "'=", "literal"], ["'where", "path", "'=", "path"]],
    "choice": [["'if", "path", "'=", "literal", "'then", "simple", "'else", "simple"]],
    "simple": [["literal"], ["sum"]],
    "sum": [["unsigned"], ["'-", "unsigned"]],
    "unsigned": [["withpath", "rest"], ["digits", "sign", "unsigned"]],
    "rest": [[], ["sign", "term", "rest"]],
    "sign": [["'+"], ["'-"]],
    "term": [["withpath"], ["digits"]],
    "withpath": [["path"], ["digits", "'*", "path"]],
    "path": [["name"], ["name", "'.", "path"]],
}
KEYWORDS = ("import", "template", "list", "document", "let", "new", "for",
            "in", "where", "give", "if", "then", "else")


def fits(part, token):
    if part.startswith("'"):
        return token == part[1:]
    if part == "name":
        return token.isalpha() and len(token) <= 12 and token not in KEYWORDS
    if part == "digits":
        return token.isdigit()
    return token.startswith('"')


def completed(states, at):
    """All states at a position: (rule, right side, done, beginning)."""
    here = states[at]
    waiting = list(here)
    while waiting:
        head, body, done, begin = waiting.pop()
        new = []
        if done == len(body):
            new = [(h, b, d + 1, o) for h, b, d, o in states[begin] if d < len(b) and b[d] == head]
        elif body[done] in RULES:
            new = [(body[done], tuple(side), 0, at) for side in RULES[body[done]]]
            if any(h == body[done] and d == len(b) and o == at for h, b, d, o in here):
                new.append((head, body, done + 1, begin))
        for state in new:
            if state not in here:
                here.add(state)
                waiting.append(state)
        if done < len(body) and body[done] in RULES:
            # What may be nothing is gone over at once.
            if () in [tuple(side) for side in RULES[body[done]]]:
                state = (head, body, done + 1, begin)
                if state not in here:
                    here.add(state)
                    waiting.append(state)


def bad_token(found, start="file"):
    """The number of the first token with which nothing can go on, len(found) if the end cannot
    follow, None if the whole can stand so."""
    states = [{(start, tuple(side), 0, 0) for side in RULES[start]}]
    for at, token in enumerate(found):
        completed(states, at)
        states.append({(h, b, d + 1, o) for h, b, d, o in states[at]
                       if d < len(b) and b[d] not in RULES and fits(b[d], token)})
        if not states[-1]:
            return at
    completed(states, len(found))
    whole = any(h == start and d == len(b) and o == 0 for h, b, d, o in states[-1])
    return None if whole else len(found)
