"""Writing patches as text."""

from manyheads.words import line_text, name_text


def patch_rows(patch):
    """The rows of a patch's text."""
    hand, number = patch.name
    known = [name_text(name) for name in patch.knows] or ["none"]
    rows = [f"patch {hand} {number}", " ".join(["knows", *known])]
    for deed in patch.deeds:
        lines = [line_text(line) for line in deed[1:3]]
        rows.append(" ".join([deed[0], *lines]))
        if deed[0] == "put":
            rows.extend(["+" + text for text in deed[3]])
    return rows


def patches_text(patches):
    """The text of patches, one behind the other."""
    rows = []
    for patch in patches:
        rows.extend(patch_rows(patch))
    return "\n".join(rows)
