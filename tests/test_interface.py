"""What the interface lists stands where it is listed, with as many arguments."""

import ast
import os
import unittest

PACKAGE = os.path.join(os.path.dirname(os.path.dirname(os.path.abspath(__file__))), "manyheads")

CLASSES = {
    "errors.py": {"HeadsError": {}, "BadRow": {"__init__": 2}, "BadPatch": {"__init__": 1},
                  "NotClosed": {"__init__": 1},
                  "Unlike": {"__init__": 1}, "Hindered": {"__init__": 1}, "BadPaper": {"__init__": 1},
                  "BadPack": {"__init__": 1}, "BadHunt": {}, "BadMessage": {}, "OutOfPlace": {}},
    "patch.py": {"Patch": {"__init__": 3, "told": 0}},
    "store.py": {"Store": {"put_patch": 1, "names": 0, "patch_of": 1, "knows_all": 1, "closed_by": 1, "heads": 0,
                           "head_set": 1, "set_head": 2, "drop_head": 1, "merge_heads": 2, "pick": 2, "take_out": 2,
                           "take_with": 2, "sweep": 1, "copied": 0}},
    "knowing.py": {"View": {"__init__": 2, "names": 0, "patch_of": 1, "add_patch": 1, "copied": 0}},
    "hunt.py": {"Hunt": {"__init__": 4, "classes": 0, "question": 0, "tell": 1, "found": 0, "worst": 0, "back": 0}},
    "history.py": {"History": {"__init__": 1, "here": 0, "how_many": 0, "parent": 1, "children": 1, "latest": 1, "heads_at": 1,
                               "store_at": 1, "set_head": 2, "drop_head": 1, "merge_heads": 2, "pick": 2, "take_out": 2,
                               "take_with": 2, "put_patch": 1, "undo": 0, "redo": 0, "go": 1, "way": 2, "sweep": 0, "copied": 0,
                               "told": 0}},
    "talk.py": {"Fetch": {"__init__": 1, "asks": 0, "hears": 1, "asked_names": 0, "held": 0}},
    "shell.py": {"Shell": {"__init__": 0, "say": 1, "history": 0}},
}
FUNCTIONS = {
    "words.py": "is_whole(thing) is_among(thing,least,most) is_word(thing) is_hand(thing) is_name(thing) "
                "is_put_line(thing) is_end(thing) number_of(word) name_of(word) line_of(word) name_text(name) "
                "line_text(line) words_of(row)",
    "patch.py": "lines_put(patch) bindings_of(patch) marks_in(patch) lines_named(deed)",
    "patchtext.py": "patch_rows(patch) patches_text(patches)",
    "patchread.py": "read_patches(text)",
    "knowing.py": "known_by(view,name) knows_it(view,one,other) knowing_way(view,one,other)",
    "marks.py": "all_lines(view) text_of(view,line) marks_of(view,line) last_marks(view,line) state_of(view,line) "
                "told_lines(view)",
    "order.py": "bound_behind(view,line) is_ahead(view,one,other) all_behind(view,line) way_ahead(view,one,other) "
                "no_way(view,one,other)",
    "rings.py": "ring_of(view,line) rings_of(view) loose_pairs(view)",
    "sheet.py": "knots(view) knot_of(view,line) told_row(view) sheet_texts(view)",
    "quarrels.py": "quarrels(view) is_plain(view) ways_to_settle(view,quarrel)",
    "alike.py": "least_change(rows,others) least_cost(rows,others)",
    "record.py": "recorded(store,head,hand,rows)",
    "paper.py": "paper_for(view,claim) claims_of(view)",
    "check.py": "check(patches,names,claim,paper)",
    "sets.py": "tops(store,names) under(store,names) log_of(store,names) lacking_log(store,head,other) common(store,head,other) "
               "knowing_row(store,one,other)",
    "hunt.py": "lead_of(store,pairs,names) hunt_paper(store,bad,goods,pairs)",
    "huntcheck.py": "check_hunt(patches,bad,goods,pairs,paper)",
    "history.py": "history_of(store,told)",
    "talk.py": "reply(store,message)",
    "pack.py": "sum_of(rows) pack_text(kept) thin(store,names,have)",
    "packread.py": "pack_read(text) thick(store,text)",
    "story.py": "story(view,line) turns(view,line) who(view) changed(store,head,other)",
    "shell.py": "told_all(texts)",
}


def parts_of(name, kind):
    with open(os.path.join(PACKAGE, name), encoding="utf-8") as file:
        body = ast.parse(file.read()).body
    return {part.name: part for part in body if isinstance(part, kind)}


class Interface(unittest.TestCase):

    def test_functions(self):
        for name, listed in FUNCTIONS.items():
            found = parts_of(name, ast.FunctionDef)
            for row in listed.split():
                word, _, arguments = row[:-1].partition("(")
                self.assertEqual([part.arg for part in found[word].args.args], arguments.split(","), word)

    def test_classes(self):
        for name, listed in CLASSES.items():
            found = parts_of(name, ast.ClassDef)
            for word, methods in listed.items():
                body = {part.name: part for part in found[word].body if isinstance(part, ast.FunctionDef)}
                for method, many in methods.items():
                    self.assertEqual(len(body[method].args.args), many + 1, f"{word}.{method}")
