"""Notes: programs read from texts and written as texts, and the answers to their asks."""

from kinddeeds.errors import NoWords
from kinddeeds.found import Found
from kinddeeds.making import made
from kinddeeds.reader import Reader
from kinddeeds.rows import MOST_ROWS, is_row
from kinddeeds.runs import ByTables


def next_name(reader):
    reader.must_take(" ")
    return reader.name()


def forms_till_end(reader):
    forms = []
    while reader.takes(" "):
        form = reader.form_name()
        forms.append((form, reader.kinds()))
    return tuple(forms)


def names_till_end(reader):
    names = []
    while reader.takes(" "):
        names.append(reader.name())
    return tuple(names)


def needs_till_end(reader):
    needs = []
    while reader.takes(" "):
        needs.append(None if reader.takes("-") else reader.name())
    return tuple(needs)


# Of once, does and def rows: so many names as stand ahead, then those of the body, then the expression.
def body_row(reader, sort, many):
    ahead = [next_name(reader) for place in range(many)]
    names = []
    while not reader.takes(" = "):
        names.append(next_name(reader))
    return (sort,) + tuple(ahead) + (tuple(names), reader.expression(0))


def kind_row(reader):
    name = next_name(reader)
    reader.must_take(" ")
    many = reader.number()
    reader.must_take(" =")
    return ("kind", name, many, forms_till_end(reader))


def class_row(reader):
    name = next_name(reader)
    return ("class", name, names_till_end(reader))


def deed_row(reader):
    name = next_name(reader)
    cls = next_name(reader)
    reader.must_take(" ")
    params = reader.kinds()
    reader.must_take(" ")
    return ("deed", name, cls, params, reader.kind(0))


def house_row(reader):
    cls = next_name(reader)
    kind = next_name(reader)
    return ("house", cls, kind, needs_till_end(reader))


def ask_row(reader):
    reader.must_take(" ")
    return ("ask", reader.expression(0))


def some_row(reader):
    sort = reader.name()
    if sort == "kind":
        return kind_row(reader)
    if sort == "class":
        return class_row(reader)
    if sort == "deed":
        return deed_row(reader)
    if sort == "house":
        return house_row(reader)
    if sort == "ask":
        return ask_row(reader)
    if sort == "does":
        return body_row(reader, sort, 3)
    if sort == "once" or sort == "def":
        return body_row(reader, sort, 1)
    raise NoWords(None)


def read_row(line):
    reader = Reader(line)
    row = some_row(reader)
    reader.must_end()
    if not is_row(row):
        raise NoWords(None)
    return row


def row_at(number, line):
    try:
        return read_row(line)
    except NoWords:
        raise NoWords((number, 0)) from None


def read(text):
    if not isinstance(text, str):
        raise NoWords(None)
    if text == "":
        return []
    lines = text.split("\n")
    if len(lines) > MOST_ROWS:
        raise NoWords(None)
    return [row_at(number, line) for number, line in enumerate(lines)]


# A run may come to numbers of more figures than Python writes at once.
def show_number(number):
    if number < 0:
        return "-" + show_number(-number)
    figures = ""
    while number >= 10 ** 60:
        figures = str(number % 10 ** 60).zfill(60) + figures
        number = number // 10 ** 60
    return str(number) + figures


def in_brackets(texts):
    return "(" + ", ".join(texts) + ")"


def show_kind(kind):
    if isinstance(kind, int):
        return show_number(kind)
    if len(kind) == 1:
        return kind[0]
    return kind[0] + in_brackets([show_kind(part) for part in kind[1:]])


def show_value(value):
    if isinstance(value, int):
        return show_number(value)
    return value[0] + in_brackets([show_value(part) for part in value[1:]])


def show_arm(arm):
    return arm[0] + in_brackets(arm[1]) + " " + show_expression(arm[2])


def show_expression(expression):
    if expression[0] == "number":
        return show_number(expression[1])
    if expression[0] == "name":
        return expression[1]
    if expression[0] == "case":
        arms = "; ".join([show_arm(arm) for arm in expression[2]])
        return "[" + show_expression(expression[1]) + ": " + arms + "]"
    return expression[1] + in_brackets([show_expression(arg) for arg in expression[2]])


def show_form(form):
    return form[0] + in_brackets([show_kind(part) for part in form[1]])


def show_need(need):
    return "-" if need is None else need


# The words of a row behind its sort.
def words_of(row):
    if row[0] == "kind":
        return [row[1], show_number(row[2]), "="] + [show_form(form) for form in row[3]]
    if row[0] == "class":
        return [row[1]] + list(row[2])
    if row[0] == "deed":
        return [row[1], row[2], in_brackets([show_kind(param) for param in row[3]]), show_kind(row[4])]
    if row[0] == "house":
        return [row[1], row[2]] + [show_need(need) for need in row[3]]
    if row[0] == "ask":
        return [show_expression(row[1])]
    return list(row[1:-2]) + list(row[-2]) + ["=", show_expression(row[-1])]


def show(program):
    return "\n".join([" ".join([row[0]] + words_of(row)) for row in program])


def answers(text):
    tables = made(Found(read(text)))
    run = ByTables(tables)
    return [show_value(run.asked(number)[0]) for number in range(len(tables[2]))]
