package synod_test

import (
	"errors"
	"slices"
	"strconv"
	"strings"
	"testing"

	"synod/api"
	"synod/synod"
)

func powers(first ...int) []int {
	return append(first, make([]int, api.MaxIds-len(first))...)
}

func TestP4Folds(t *testing.T) {
	for _, c := range []struct {
		name    string
		genesis []int
		blocks  []string
		want    api.Registry
	}{
		{"example", []int{1, 1, 1}, []string{"ja3,v10", "la"}, api.Registry{Powers: powers(1, 0, 1)}},
		{"no blocks", []int{9}, nil, api.Registry{Powers: powers(9)}},
		{"all ids", []int{0, 1, 2, 3, 4, 5, 6, 9}, nil, api.Registry{Powers: powers(0, 1, 2, 3, 4, 5, 6, 9)}},
		{"only the last has power", []int{0, 0, 0, 0, 0, 0, 0, 1}, nil, api.Registry{Powers: powers(0, 0, 0, 0, 0, 0, 0, 1)}},
		{"blocks without records", []int{1}, []string{"", "", ""}, api.Registry{Powers: powers(1)}},
		{"names rise", []int{1}, []string{"jz9,ja1,jm5", "jb2"}, api.Registry{Powers: powers(1), Names: "abmz", Roles: []int{1, 2, 5, 9}}},
		{"another role", []int{1}, []string{"ja1", "ra9", "ra1"}, api.Registry{Powers: powers(1), Names: "a", Roles: []int{1}}},
		{"all in one block", []int{1}, []string{"ja1,ra2,la"}, api.Registry{Powers: powers(1)}},
		{"leaves and joins again", []int{1}, []string{"ja1", "la,ja1"}, api.Registry{Powers: powers(1), Names: "a", Roles: []int{1}}},
		{"a power behind genesis", []int{1}, []string{"v79"}, api.Registry{Powers: powers(1, 0, 0, 0, 0, 0, 0, 9)}},
		{"the power goes over", []int{1}, []string{"v11", "v00"}, api.Registry{Powers: powers(0, 1)}},
		{"v in the middle", []int{1}, []string{"ja1,v02,la"}, api.Registry{Powers: powers(2)}},
		{"v in each block", []int{1}, []string{"v02", "v03", "v01"}, api.Registry{Powers: powers(1)}},
		{"more blocks than heights", []int{1}, make([]string, 100), api.Registry{Powers: powers(1)}},
	} {
		got, err := synod.Fold(c.genesis, c.blocks)
		if err != nil || !slices.Equal(got.Powers, c.want.Powers) || got.Names != c.want.Names || !slices.Equal(got.Roles, c.want.Roles) {
			t.Errorf("%s: Fold(%v, %q) = %+v, %v, want %+v", c.name, c.genesis, c.blocks, got, err, c.want)
		}
	}
}

func TestP4Genesis(t *testing.T) {
	for _, genesis := range [][]int{nil, {}, {0}, powers(), {-1}, {10}, {1, -1}, {5, 10}, {-3, 9}, {1, 1, 1, 1, 1, 1, 1, 1, 1}, {1, 0, 0, 0, 0, 0, 0, 0, 0}, make([]int, 1000), {1 << 62, 1 << 62, 1 << 62, 1 << 62}} {
		folds(t, genesis, nil, api.ErrArg)
	}
}

func TestP4Blocks(t *testing.T) {
	for _, c := range []struct {
		name   string
		blocks []string
	}{
		{"example: joins twice", []string{"ja3", "ja4"}},
		{"joins twice in a block", []string{"ja3,ja3"}},
		{"leaves without having joined", []string{"la"}},
		{"leaves twice", []string{"ja1,la,la"}},
		{"leaves ahead of joining", []string{"la,ja1"}},
		{"a role for no member", []string{"ra1"}},
		{"a role for one who left", []string{"ja1", "la", "ra2"}},
		{"the same role", []string{"ja1", "ra1"}},
		{"the same power", []string{"v01"}},
		{"the same power, 0", []string{"v10"}},
		{"no power left", []string{"v00"}},
		{"no power left, later", []string{"v11", "v00", "v10"}},
		{"two with v", []string{"v11,v21"}},
		{"two with v, one between", []string{"v11,ja1,v10"}},
		{"four records", []string{"ja1,jb1,jc1,jd1"}},
		{"four records, two of them empty", []string{"ja1,jb1,,"}},
		{"a comma alone", []string{","}},
		{"a comma ahead", []string{",ja1"}},
		{"a comma behind", []string{"ja1,"}},
		{"two commas", []string{"ja1,,jb1"}},
		{"other commas", []string{"ja1;jb1"}},
		{"a gap", []string{"ja1, jb1"}},
		{"a line's end", []string{"ja1\n"}},
		{"no such kind", []string{"xa1"}},
		{"a great letter of a kind", []string{"Ja1"}},
		{"the last block", []string{"", "ja1", "la", "jA1"}},
		{"the first block", []string{"x", "ja1"}},
		{"a long text", []string{strings.Repeat("ja1,", 100000)}},
	} {
		t.Run(c.name, func(t *testing.T) { folds(t, []int{1}, c.blocks, api.ErrRecord) })
	}
}

func folds(t *testing.T, genesis []int, blocks []string, want error) {
	t.Helper()
	r, err := synod.Fold(genesis, blocks)
	if !errors.Is(err, want) || len(r.Powers) > 0 || r.Names != "" || len(r.Roles) > 0 {
		t.Errorf("Fold(%v, %.60q) = %+v, %v, want %v alone", genesis, blocks, r, err, want)
	}
}

// texts has every text of up to two bytes, and those of three that begin with a letter of a record.
func texts() []string {
	list := []string{""}
	for a := range 256 {
		list = append(list, string([]byte{byte(a)}))
		for b := range 256 {
			list = append(list, string([]byte{byte(a), byte(b)}))
		}
	}
	for _, kind := range []byte("jlrv") {
		for b := range 65536 {
			list = append(list, string([]byte{kind, byte(b >> 8), byte(b)}))
		}
	}
	return list
}

// records has what may be: for every name or id from first to last, and every digit.
func records(kind string, first, last byte, digits string) []string {
	var list []string
	for b := first; b <= last; b++ {
		for _, d := range digits {
			list = append(list, kind+string(rune(b))+string(d))
		}
	}
	return list
}

func TestP4EveryShortBlock(t *testing.T) {
	var crowd []string
	for b := 'a'; b <= 'z'; b++ {
		crowd = append(crowd, "j"+string(b)+"9")
	}
	leaving := []string{}
	for b := 'a'; b <= 'z'; b++ {
		leaving = append(leaving, "l"+string(b))
	}
	votes := append(records("v", '0', '0', "23456789"), records("v", '1', '7', "123456789")...)
	for _, c := range []struct {
		name   string
		ahead  []string
		expect []string
	}{
		{"no members", nil, slices.Concat([]string{""}, records("j", 'a', 'z', "123456789"), votes)},
		{"all are members", crowd, slices.Concat([]string{""}, leaving, records("r", 'a', 'z', "12345678"), votes)},
	} {
		want := map[string]int{}
		for _, text := range c.expect {
			want[text]++
		}
		for _, text := range texts() {
			_, err := synod.Fold([]int{1}, append(slices.Clone(c.ahead), text))
			if (err == nil) != (want[text] == 1) || err != nil && !errors.Is(err, api.ErrRecord) {
				t.Errorf("%s: %q: %v", c.name, text, err)
			}
		}
	}
}

func TestP4NothingStandsBesideARecord(t *testing.T) {
	for _, record := range []string{"ja1", "lz", "rz2", "v12"} {
		for b := range 256 {
			for _, text := range []string{string([]byte{byte(b)}) + record, record + string([]byte{byte(b)})} {
				folds(t, []int{1}, []string{"jz1", text}, api.ErrRecord)
			}
		}
	}
}

// Blocks and single records lead to the same registry, as long as a block may hold them.
func TestP4BlocksAreTheirRecords(t *testing.T) {
	some := []string{"ja1", "ja2", "jb1", "la", "lb", "ra1", "ra2", "rb1", "v00", "v01", "v10", "v11", "x"}
	for x := range len(some) * len(some) * len(some) {
		list := []string{some[x%13], some[x/13%13], some[x/169]}
		block := strings.Join(list, ",")
		whole, err := synod.Fold([]int{1}, []string{block})
		single, wrong := synod.Fold([]int{1}, list)
		if strings.Count(block, "v") > 1 {
			single, wrong = api.Registry{}, api.ErrRecord
		}
		if !errors.Is(err, wrong) || say(whole) != say(single) {
			t.Errorf("Fold(%q) = %+v, %v; one by one %+v, %v", block, whole, err, single, wrong)
		}
	}
}

func say(r api.Registry) string {
	var b strings.Builder
	for _, p := range r.Powers {
		b.WriteString(strconv.Itoa(p))
	}
	b.WriteString(" " + r.Names + " ")
	for _, n := range r.Roles {
		b.WriteString(strconv.Itoa(n))
	}
	return b.String()
}
