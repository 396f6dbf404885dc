"""The lists of words that the rules of the language name."""

import builtins

BUILTINS = set("""len range enumerate zip min max sum abs sorted reversed int str bool bytes list tuple dict set frozenset
    isinstance ord repr any all divmod iter next map Exception ValueError TypeError KeyError IndexError LookupError
    ZeroDivisionError ArithmeticError OverflowError RuntimeError NotImplementedError AttributeError StopIteration
    NotImplemented""".split())
ALL_BUILTINS = set(dir(builtins))
LIBRARY = {"heapq": {"heappush", "heappop", "heapify", "heapreplace", "heappushpop"},
           "math": {"gcd", "lcm", "isqrt", "comb", "perm", "factorial"},
           "itertools": {"product", "combinations", "permutations"}, "__future__": {"annotations"}}
METHODS = set("""append clear copy count endswith extend find get index insert isalnum isalpha isdigit islower isspace
    isupper items join keys ljust lower lstrip partition pop remove replace reverse rfind rjust rpartition rsplit rstrip
    setdefault split splitlines startswith strip update upper values zfill bit_length title capitalize swapcase casefold
    center expandtabs removeprefix removesuffix rindex isascii isdecimal isnumeric istitle isidentifier isprintable
    translate sort add discard""".split())
OWN_METHODS = set("""append clear copy count endswith extend find get index insert isalnum isalpha isdigit islower isspace
    isupper items join keys ljust lower lstrip partition pop remove replace reverse rfind rjust rpartition rsplit rstrip
    setdefault split splitlines startswith strip update upper values zfill add discard""".split())
OWN_ATTRIBUTES = set("count index title find get join lower upper split strip copy add".split())
TAKEN = {name for value in ("", 0, [], {}, set(), b"") for name in dir(value) if not name.startswith("__")}
CHANGING = set("append clear extend insert pop remove reverse setdefault update sort add discard".split())
REFLECTED = ["add", "sub", "mul", "floordiv", "mod", "and", "or", "xor", "lshift", "rshift"]
PURE = {f"__{name}__" for name in [*REFLECTED, *[f"r{name}" for name in REFLECTED], "pow", "lt", "le", "gt", "ge", "ne",
                                   "eq", "contains", "getitem", "neg", "pos", "invert", "abs", "bool", "len", "str",
                                   "repr"]}
DUNDERS = PURE | {"__init__", "__enter__", "__exit__", "__call__", "__iter__", "__setitem__", "__ipow__"}
DUNDERS |= {f"__i{name}__" for name in REFLECTED}
BARRED = set("register mro elements open input law version_info with_traceback add_note".split())
BARRED_NAMES = set("""attrgetter breakpoint builtins compile copyright credits delattr dir eval exec exit gc getattr globals
    hasattr help id importlib license locals methodcaller os quit setattr super type vars sys __name__""".split())
BARRED_WORDS = set("""type typing typing_extensions enum Enum IntEnum StrEnum Flag IntFlag Generic Protocol ABC ABCMeta
    namedtuple NamedTuple TypedDict TYPE_CHECKING abstractmethod""".split())
BARRED_PARTS = ("dataclass", "overload", "contextmanager")
BARRED_BEGINNINGS = ("_wall", "_pe_", "_dcw_", "_enum_", "_cm_", "_twin_re_", "_lay_", "_law_", "_stub_", "_sre",
                     "_WallAttr")
BARRED_PLAIN = ("_cold", "_tuplegetter", "_outside", "_record", "_written_out", "_member_names")
CAUGHT = {"KeyError", "ZeroDivisionError", "StopIteration", "ValueError", "LookupError", "IndexError"}
KEYWORDS = {"sorted": {"key", "reverse"}, "min": {"key", "default"}, "max": {"key", "default"}, "sum": {"start"},
            "enumerate": {"start"}, "zip": {"strict"}}
# Where something is iterated over on the spot.
TAKERS = set("list tuple dict sorted sum any all enumerate zip".split())
