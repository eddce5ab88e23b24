"""Reports: lines, papers, results, rows of a log and reasons written as texts (points 100 and 101)."""

from redo.errors import BadLine
from redo.lines import is_line
from redo.stamps import stamp_of


def line_text(line):
    words = [line[0]]
    for read in line[1]:
        words.extend(read)
    return " ".join(words + [":"] + list(line[2]))


def line_by(text):
    words = text.split(" ")
    # A name, two words for each read, the colon, and the end's two.
    if len(words) < 4 or len(words) % 2 != 0 or words[-3] != ":":
        return None
    reads = tuple([(words[k], words[k + 1]) for k in range(1, len(words) - 3, 2)])
    line = (words[0], reads, (words[-2], words[-1]))
    return line if is_line(line) else None


def paper_texts(paper):
    return [line_text(line) for line in paper]


def paper_by(texts):
    paper = []
    for at, text in enumerate(texts):
        line = line_by(text)
        if line is None:
            raise BadLine(at)
        paper.append(line)
    return paper


def result_text(result):
    if result[0] == "made":
        return "made " + stamp_of(result[1])
    word = "fails " + result[2] if result[0] == "fails" else result[0]
    return word + " by " + " ".join(result[1])


def log_text(row):
    return " ".join(row)


def reason_text(reason):
    if reason is None:
        return "-"
    if reason[0] == "read":
        return " ".join(["read", str(reason[1]), reason[2], reason[3]] + list(reason[4]))
    return " ".join(reason)
