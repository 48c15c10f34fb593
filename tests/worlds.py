"""Worlds of texts that are written by hand, read a second way."""

import re

from planning import GAP, TOKEN
from randomly import World


class Written(World):
    """The data of files that have no errors; see World."""

    def __init__(self, **texts):
        self.templates, self.lists, self.files, self.documents = {}, {}, {}, {}
        self.known = {}
        for file, text in texts.items():
            self.file, self.tokens = file, TOKEN.findall(re.sub(r'("[^"]*")|#[^\n]*', lambda found: found.group(1) or "", text))
            self.read_file()
        for owner in list(self.templates.values()) + list(self.documents.values()):
            self.link(owner)
        for owner in list(self.templates.values()) + list(self.documents.values()):
            if owner["parent"] is None:
                for name in owner["fields"]:
                    self.kind_of(owner, name)
        for owner in list(self.templates.values()) + list(self.documents.values()):
            self.spread(owner)

    def take(self, *expected):
        token = self.tokens.pop(0)
        assert not expected or token in expected, (token, expected)
        return token

    def accepts(self, token):
        if self.tokens and self.tokens[0] == token:
            self.tokens.pop(0)
            return True
        return False

    def read_file(self):
        self.files[self.file] = {"imports": [], "order": []}
        while self.accepts("import"):
            self.files[self.file]["imports"].append(self.take())
        while self.tokens:
            word = self.take("list", "template", "document")
            if word == "document":
                self.documents[self.file] = {"file": self.file, "name": "", "parent": None, "fields": self.body(True)}
                continue
            name = self.take()
            self.files[self.file]["order"].append((word, name))
            if word == "list":
                self.lists[(self.file, name)] = self.stock()
            else:
                parent = self.take() if self.accepts("=") else None
                self.templates[(self.file, name)] = {"file": self.file, "name": name, "parent": parent, "fields": self.body(parent is None)}

    def stock(self):
        columns, items = {}, []
        self.take("(")
        while not self.accepts(")"):
            name = self.take()
            self.take(":")
            columns[name] = self.take("number", "text")
            self.accepts(",")
        self.take("[")
        while not self.accepts("]"):
            self.take("{")
            item = {}
            while not self.accepts("}"):
                name = self.take()
                self.take(":")
                item[name] = self.literal()
            items.append(item)
        return {"columns": columns, "items": items}

    def literal(self):
        if self.tokens[0].startswith('"'):
            return self.take()[1:-1]
        sign = -1 if self.accepts("-") else 1
        return sign * int(self.take())

    def body(self, declares):
        fields = {}
        self.take("{")
        while not self.accepts("}"):
            hidden = self.accepts("let")
            name = self.take()
            self.take(":")
            value = self.read_value()
            fields[name] = {"hidden": hidden, "value": value} if declares else value
        return fields

    def read_value(self):
        if self.tokens[0] == "{":
            return {"form": "body", "fields": self.body(False)}
        if self.accepts("new"):
            return {"form": "new", "template": self.take(), "body": self.body(False) if self.tokens[0] == "{" else None}
        if self.accepts("for"):
            value = {"form": "loop", "var": self.take(), "list": self.take("in") and self.take(), "where": None}
            if self.accepts("where"):
                left = self.path()
                self.take("=")
                right = self.path() if self.tokens[0].isalpha() else self.literal()
                value["where"] = (left[1], right)
            self.take("give")
            return {**value, "template": self.take(), "body": self.body(False) if self.tokens[0] == "{" else None}
        if self.accepts("if"):
            path = self.path()
            self.take("=")
            literal = self.literal()
            self.take("then")
            first = self.simple()
            self.take("else")
            return {"form": "choice", "path": path, "literal": literal, "sides": [first, self.simple()]}
        return self.simple()

    def path(self):
        parts = [self.take()]
        while self.accepts("."):
            parts.append(self.take())
        return tuple(parts)

    def simple(self):
        if self.tokens[0].startswith('"'):
            return {"form": "literal", "worth": self.literal()}
        terms, signed = [], False
        sign = -1 if self.accepts("-") else 1
        while True:
            number = int(self.take()) if self.tokens[0].isdigit() else None
            path = self.path() if number is None or self.accepts("*") else None
            terms.append((sign, number, path))
            if not self.tokens or self.tokens[0] not in "+-":
                break
            sign = 1 if self.take() == "+" else -1
        if len(terms) == 1 and terms[0][2] is None:
            return {"form": "literal", "worth": terms[0][0] * terms[0][1]}
        if len(terms) == 1 and terms[0][:2] == (1, None):
            return {"form": "copy", "path": terms[0][2]}
        return {"form": "sum", "terms": terms}

    # What names lead to

    def find(self, table, file, name):
        for near in [file] + self.files[file]["imports"]:
            if (near, name) in table:
                return (near, name)
        raise AssertionError(name)

    def link(self, owner):
        if owner["parent"] is not None:
            owner["parent"] = self.find(self.templates, owner["file"], owner["parent"])
            return
        for entry in owner["fields"].values():
            value = entry["value"]
            if value["form"] in ("new", "loop"):
                value["template"] = self.find(self.templates, owner["file"], value["template"])
            if value["form"] == "loop":
                value["list"] = self.find(self.lists, owner["file"], value["list"])

    def kind_of(self, owner, name):
        value = owner["fields"][name]["value"]
        if value["form"] in ("new", "loop"):
            return None
        if "kind" not in value:
            value["kind"] = "number"
            value["kind"] = self.simple_kind(owner, value["sides"][0] if value["form"] == "choice" else value)
        return value["kind"]

    def simple_kind(self, owner, value):
        if value["form"] == "literal":
            return "text" if isinstance(value["worth"], str) else "number"
        if value["form"] == "sum":
            return "number"
        base = owner
        for part in value["path"][:-1]:
            base = self.base(self.templates[base["fields"][part]["value"]["template"]])
        return self.kind_of(base, value["path"][-1])

    def spread(self, owner):
        """Give the kinds to all values in overriding bodies."""
        base = self.base(owner)
        if owner["parent"] is not None:
            self.give(base, owner["fields"])
            return
        for entry in owner["fields"].values():
            value = entry["value"]
            if value["form"] in ("new", "loop") and value["body"] is not None:
                self.give(self.base(self.templates[value["template"]]), value["body"])

    def give(self, base, fields):
        for name, value in fields.items():
            declared = base["fields"][name]["value"]
            if value["form"] == "body":
                self.give(self.base(self.templates[declared["template"]]), value["fields"])
            else:
                value["kind"] = declared["kind"]
