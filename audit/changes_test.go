package audit_test

import (
	"math"
	"strings"
	"testing"

	"mahout/api"
	"mahout/audit"
	"mahout/crc"
	"mahout/tree"
)

// P24.1: without changes and calls nothing is wrong.
func TestNothing(t *testing.T) {
	wantRight(t, nil)
	wantRight(t, []audit.Change{}, []audit.Call{}...)
}

// P24.1: changes of all kinds, of several clients, some in one step.
func TestRightChanges(t *testing.T) {
	wantRight(t, []audit.Change{
		changeOf(9, math.MinInt, mkdir("/jobs")), change(-3, mkdir("/d")), change(-3, create("/d/f")), adding(-3, "/d/f", "ab"), adding(0, "/d/f", "ab"),
		changeOf(0, 0, expire("/d/f")), change(1, create("/d/g")), change(1, shut("/d/g")), changeOf(4, 2, limit("/d", 2)),
		changeOf(4, 2, rename("/d", "/e")), change(math.MaxInt, remove("/e/f")), change(math.MaxInt, remove("/e")),
	})
}

// P24.1: `order`
func TestOrder(t *testing.T) {
	for _, steps := range [][2]int{{1, 0}, {0, -1}, {0, math.MinInt}, {math.MaxInt, math.MinInt}, {math.MaxInt, math.MaxInt - 1}} {
		wantVerdict(t, []audit.Change{change(steps[0], mkdir("/a")), change(steps[1], mkdir("/b"))}, nil, 1, "order")
	}
	wantVerdict(t, []audit.Change{change(1, mkdir("/a")), change(5, mkdir("/b")), change(4, mkdir("/c")), change(3, mkdir("/d"))}, nil, 2, "order")
	wantVerdict(t, []audit.Change{change(5, mkdir("/a")), change(1, mkdir("/b")), change(5, mkdir("/c"))}, nil, 1, "order")
}

// P24.1: `change`, of an Add: its piece tells of other bytes.
func TestAddOfOtherBytes(t *testing.T) {
	begin := []audit.Change{change(1, mkdir("/d")), change(1, create("/f"))}
	for _, c := range []struct {
		size int
		sum  uint32
		data string
	}{
		{3, crc.Sum("ab"), "ab"}, {1, crc.Sum("ab"), "ab"}, {2, crc.Sum("ab") ^ 1, "ab"}, {2, crc.Sum("ba"), "ab"}, {2, 0, "ab"},
		{1, 0, ""}, {math.MaxInt, crc.Sum("ab"), "ab"}, {-2, crc.Sum("ab"), "ab"}, {2, crc.Sum("ab"), "abc"}, {2, crc.Sum("abc"), "abc"},
	} {
		wrong := change(2, add("/f"))
		wrong.Op.Piece, wrong.Data = api.Piece{Size: c.size, Sum: c.sum}, c.data
		wantVerdict(t, append(begin, wrong), nil, 2, "change")
		wantVerdict(t, append(begin, adding(1, "/f", "x"), wrong, wrong), nil, 3, "change")
	}
}

// P24.1: `change`, of another Op: it comes with data.
func TestDataOfNoAdd(t *testing.T) {
	begin := []audit.Change{change(1, mkdir("/d")), change(1, create("/f"))}
	for _, op := range []tree.Op{mkdir("/x"), create("/x"), shut("/f"), remove("/f"), rename("/d", "/e"), limit("/d", 3), expire("/f")} {
		c := change(2, op)
		wantRight(t, append(begin, c))
		c.Data = "\x00"
		wantVerdict(t, append(begin, c), nil, 2, "change")
		c.Data, c.Op.Piece = "ab", pieceOf("ab")
		wantVerdict(t, append(begin, c), nil, 2, "change")
		c.Data = "" // of the piece nothing is asked
		wantRight(t, append(begin, c))
	}
}

// P24.1: `change`, where the tree doesn't take it behind those that are ahead.
func TestChangeThatTheTreeRefuses(t *testing.T) {
	begin := []audit.Change{change(1, mkdir("/d")), change(1, create("/f")), changeOf(2, 1, create("/g")), change(1, limit("/d", 1)), change(1, mkdir("/d/e"))}
	for _, c := range []audit.Change{
		{Step: 1}, {Step: 1, Op: tree.Op{Kind: 9, Path: "/x"}}, {Step: 1, Op: tree.Op{Kind: -1, Path: "/x"}},
		change(1, mkdir("/d")), change(1, mkdir("x")), change(1, create("/x/y")), change(1, create("/d/x")), change(1, shut("/g")), change(1, expire("/d")),
		change(1, remove("/")), change(1, remove("/x")), change(1, rename("/d", "/d/e/f")), change(1, rename("/f", "/x")), change(1, limit("/d", -1)),
		adding(1, "/d", "ab"), adding(1, "/g", "ab"), adding(1, "/x", "ab"), adding(1, "/f", ""), adding(1, "/f", strings.Repeat("a", api.MaxBlock+1)),
	} {
		wantVerdict(t, append(begin, c, change(1, mkdir("/x"))), nil, len(begin), "change")
	}
	wantRight(t, append(begin, adding(1, "/f", strings.Repeat("a", api.MaxBlock))))
}

// P24.1: the tree is asked about the Op as it is: a change's Client isn't the Op's.
func TestClientOfTheOp(t *testing.T) {
	made := func(client, holder int, op tree.Op) audit.Change {
		op.Client = holder
		return audit.Change{Client: client, Op: op}
	}
	wantRight(t, []audit.Change{made(1, 3, create("/f")), made(2, 3, shut("/f"))})
	wantVerdict(t, []audit.Change{made(1, 3, create("/f")), made(1, 1, shut("/f"))}, nil, 1, "change")
}

// P24.1: a file has MaxBlocks pieces at most.
func TestLongFile(t *testing.T) {
	changes := []audit.Change{change(0, create("/f"))}
	for range api.MaxBlocks {
		changes = append(changes, adding(0, "/f", "a"))
	}
	whole := strings.Repeat("a", api.MaxBlocks)
	wantRight(t, changes, read(0, 0, len(changes), "/f", whole), refused(0, 0, len(changes), addPiece("/f", 1), api.ErrLong))
	wantWrong(t, "data", changes, read(0, 0, len(changes), "/f", whole+"a"), read(0, 0, len(changes), "/f", whole[1:]), read(0, 0, len(changes)-1, "/f", whole))
	wantVerdict(t, append(changes, adding(0, "/f", "a")), nil, len(changes), "change")
	wantFiles(t, append(changes, adding(0, "/f", "a")), "/f", whole)
}

// P24.1: the first of the changes, of each the order first, and the changes ahead of the calls.
func TestFirstWrongChange(t *testing.T) {
	again := change(1, mkdir("/a"))
	wantVerdict(t, []audit.Change{again, again, change(0, mkdir("/b"))}, nil, 1, "change")
	wantVerdict(t, []audit.Change{again, change(0, mkdir("/b")), again}, nil, 1, "order")
	wantVerdict(t, []audit.Change{again, change(0, mkdir("/a"))}, nil, 1, "order")
	wantVerdict(t, []audit.Change{change(1, mkdir("a"))}, nil, 0, "change")
	wrong := []audit.Call{{}, {Kind: 77}, read(2, 1, -1, "/", "x")}
	wantVerdict(t, []audit.Change{again}, wrong, 0, "kind")
	wantVerdict(t, []audit.Change{again, again}, wrong, 1, "change")
	wantVerdict(t, []audit.Change{again, change(0, mkdir("/b"))}, wrong, 1, "order")
}
