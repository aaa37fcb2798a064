"""Trees, layers and stacks that are drawn, and what they show, worked out path by path."""

from things import wide

D = ("drawer",)
TEXTS = ["", "a", "b", "a b"]


def draw_tree(luck, many=12, names="abc", long=3):
    tree = {(): D}
    texts = {number: luck.choice(TEXTS) for number in range(4)}
    for _ in range(luck.randrange(many)):
        tops = [path for path in sorted(tree) if tree[path] == D and len(path) < long]
        path = luck.choice(tops) + (luck.choice(names),)
        if path not in tree:
            number = luck.randrange(4)
            tree[path] = luck.choice([D, ("file", number, texts[number])])
    return tree


def draw_layer(luck, many=12, names="abc", long=3):
    layer = {(): ("drawer", luck.random() < 0.15)}
    texts = {number: luck.choice(TEXTS) for number in range(4)}
    for _ in range(luck.randrange(many)):
        tops = [path for path in sorted(layer) if layer[path][0] == "drawer" and len(path) < long]
        path = luck.choice(tops) + (luck.choice(names),)
        if path not in layer:
            number = luck.randrange(4)
            layer[path] = luck.choice([
                ("drawer", False), ("drawer", False), ("drawer", True), ("gone",), ("file", number, texts[number]),
            ])
    return layer


def shuffled(luck, things):
    """The same dict, in another order."""
    keys = list(things)
    luck.shuffle(keys)
    return {key: things[key] for key in keys}


def is_open(layer, tree, path):
    if layer.get(path) != ("drawer", False) or tree.get(path) != D:
        return False
    return path == () or is_open(layer, tree, path[:-1])


def seen(layer, tree, path):
    """What point 7 says of one path; a file bears in the place of its number where it comes from, too."""
    if path in layer:
        entry = layer[path]
        if entry[0] == "file":
            return ("file", ("layer", entry[1]), entry[2])
        return D if entry[0] == "drawer" else None
    top = path[:-1]
    while top not in layer:
        top = top[:-1]
    thing = tree.get(path) if is_open(layer, tree, top) else None
    return ("file", ("tree", thing[1]), thing[2]) if thing and thing[0] == "file" else thing


def numbered(tree):
    """A plain tree, worked out from what stands for the numbers of a tree's files."""
    order = []
    for path in sorted(tree):
        if tree[path][0] == "file" and tree[path][1] not in order:
            order.append(tree[path][1])
    return {
        path: ("file", order.index(thing[1]), thing[2]) if thing[0] == "file" else D for path, thing in tree.items()
    }


def over(layer, tree):
    found = {path: seen(layer, tree, path) for path in {**layer, **tree}}
    return numbered({path: thing for path, thing in found.items() if thing is not None})


def stacked(stack, tree=None):
    found = {(): D} if tree is None else tree
    for layer in reversed(stack):
        found = over(layer, found)
    return found


def sure_trees():
    """Trees that are no drawn ones: just the root, one that is wide, one that is deep."""
    return [{(): D}, wide(80), {("a",) * many: D for many in range(6)}]
