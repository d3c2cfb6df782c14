package asset_test

import (
	"math"
	"slices"
	"testing"

	"pledge/api"
	"pledge/asset"
)

// farIDs are numbers that are no asset's, some of them that of one in fewer bits.
func farIDs() []int {
	return []int{math.MinInt, math.MinInt + 5, -1 << 32, -api.MaxAsset, -5, -1, 0, api.MaxAsset + 1, api.MaxAsset + 5, 256 + 5, 1<<16 + 5, 1<<32 + 5, math.MaxInt}
}

// sample is an asset of that ID: every fourth is cash, the issuers are 0 to 4.
func sample(id int) api.Asset {
	if id%4 == 0 {
		return api.Asset{ID: id, Class: 1, Money: 1 + id%api.MaxMoneys}
	}
	return api.Asset{ID: id, Issuer: id % 5, Class: 2 + id%5, Money: 1 + id%api.MaxMoneys, End: id * 1000}
}

// check asks m for all that it has, which is to be just want (by ID).
func check(t *testing.T, m *asset.Master, want map[int]api.Asset) {
	t.Helper()
	var all []api.Asset
	of := map[int][]int{}
	for id := 1; id <= api.MaxAsset; id++ {
		a, there := want[id]
		if there {
			all = append(all, a)
			of[a.Issuer] = append(of[a.Issuer], id)
		}
		if got, ok := m.Get(id); got != a || ok != there {
			t.Errorf("Get(%d) = %+v, %v, want %+v, %v", id, got, ok, a, there)
		}
	}
	for _, id := range farIDs() {
		if got, ok := m.Get(id); ok || got != (api.Asset{}) {
			t.Errorf("Get(%d) = %+v, %v", id, got, ok)
		}
	}
	if got := m.All(); !slices.Equal(got, all) {
		t.Errorf("All() = %+v, want %+v", got, all)
	}
	for issuer := -2; issuer <= api.MaxIssuer+2; issuer++ {
		if got := m.Of(issuer); !slices.Equal(got, of[issuer]) {
			t.Errorf("Of(%d) = %v, want %v", issuer, got, of[issuer])
		}
	}
	for _, issuer := range []int{math.MinInt, -1 << 32, 1 << 32, 1<<32 + 2, 1<<16 + 2, 256 + 2, math.MaxInt} {
		if got := m.Of(issuer); len(got) > 0 {
			t.Errorf("Of(%d) = %v", issuer, got)
		}
	}
}

// add asks for what Add answers.
func add(t *testing.T, m *asset.Master, a api.Asset, want error) {
	t.Helper()
	if err := m.Add(a); err != want {
		t.Errorf("Add(%+v) = %v, want %v", a, err, want)
	}
}

// P10.1: the zero value is a master, without assets.
func TestMasterOfNone(t *testing.T) {
	var m asset.Master
	check(t, &m, nil)
	check(t, new(asset.Master), nil)
	check(t, &asset.Master{}, nil)
}

// P10.1: whatever the order in which they are added, all are by ID.
func TestAdd(t *testing.T) {
	for _, step := range []int{1, 31, 5, 7, 13, 27} { // each has no divisor in common with 32
		var m asset.Master
		want := map[int]api.Asset{}
		for i := range api.MaxAsset {
			a := sample(1 + i*step%api.MaxAsset)
			add(t, &m, a, nil)
			want[a.ID] = a
			check(t, &m, want)
		}
		if len(want) != api.MaxAsset {
			t.Fatal(len(want))
		}
	}
}

// P10.1: ErrThere, also of just the same one, and what was there stays.
func TestAddThere(t *testing.T) {
	var m asset.Master
	want := map[int]api.Asset{5: bond(), 6: money()}
	add(t, &m, bond(), nil)
	add(t, &m, money(), nil)
	for range 2 {
		add(t, &m, bond(), api.ErrThere)
		add(t, &m, money(), api.ErrThere)
		add(t, &m, api.Asset{ID: 5, Class: 1, Money: 1}, api.ErrThere)
		add(t, &m, api.Asset{ID: 6, Issuer: 9, Class: 2, Money: 6, End: 9}, api.ErrThere)
		check(t, &m, want)
	}
	for id := 1; id <= api.MaxAsset; id++ {
		err := error(nil)
		if id == 5 || id == 6 {
			err = api.ErrThere
		} else {
			want[id] = sample(id)
		}
		add(t, &m, sample(id), err)
	}
	check(t, &m, want)
}

// P10.1: ErrRange ahead of ErrThere, and nothing is changed.
func TestAddRange(t *testing.T) {
	var empty, m asset.Master
	add(t, &m, bond(), nil)
	add(t, &m, money(), nil)
	wrong := []api.Asset{{}, {ID: 5}, {ID: 5, Issuer: 1, Class: 1, Money: 1}, {ID: 5, Class: 1, Money: 1, End: 1}, {ID: 6, Issuer: 1, Class: 1, Money: 1}, {ID: 7, Class: 1, Money: 1, End: 1}}
	for _, f := range fields() {
		for _, n := range f.outside() {
			wrong = append(wrong, f.with(bond(), n), f.with(money(), n), f.with(sample(7), n))
		}
	}
	for _, a := range wrong {
		add(t, &m, a, api.ErrRange)
		add(t, &empty, a, api.ErrRange)
	}
	check(t, &m, map[int]api.Asset{5: bond(), 6: money()})
	check(t, &empty, nil)
}

// P10.1: issuer 0 is nobody: its assets are those without an issuer, and no others.
func TestOf(t *testing.T) {
	var m asset.Master
	for _, a := range []api.Asset{
		{ID: 32, Issuer: 2, Class: 2, Money: 1},
		{ID: 9, Class: 4, Money: 1},
		{ID: 31, Issuer: api.MaxIssuer, Class: 2, Money: 1},
		{ID: 1, Class: 1, Money: 1},
		{ID: 4, Issuer: 2, Class: 6, Money: 3, End: 9},
	} {
		add(t, &m, a, nil)
	}
	for _, x := range []struct {
		issuer int
		want   []int
	}{{0, []int{1, 9}}, {2, []int{4, 32}}, {api.MaxIssuer, []int{31}}, {1, nil}, {9, nil}, {-2, nil}, {api.MaxIssuer + 1, nil}} {
		if got := m.Of(x.issuer); !slices.Equal(got, x.want) {
			t.Errorf("Of(%d) = %v, want %v", x.issuer, got, x.want)
		}
	}
}

// P0.4: each list is new memory, its spare room too.
func TestListsAreNewMemory(t *testing.T) {
	var m asset.Master
	want := map[int]api.Asset{}
	for id := 1; id <= 21; id++ { // so that a list that grows has room to spare
		add(t, &m, sample(id), nil)
		want[id] = sample(id)
	}
	all, ids := m.All(), m.Of(0)
	otherAll, otherIDs := m.All(), m.Of(0)
	wantAll, wantIDs := slices.Clone(otherAll), slices.Clone(otherIDs)
	all, ids = all[:cap(all)], ids[:cap(ids)]
	for i := range all {
		all[i] = api.Asset{ID: 99, Issuer: 99}
	}
	for i := range ids {
		ids[i] = 99
	}
	if !slices.Equal(otherAll, wantAll) || !slices.Equal(otherIDs, wantIDs) {
		t.Error(otherAll, otherIDs)
	}
	check(t, &m, want)
	add(t, &m, sample(22), nil)
	add(t, &m, sample(24), nil)
	if !slices.Equal(otherAll, wantAll) || !slices.Equal(otherIDs, wantIDs) {
		t.Error(otherAll, otherIDs)
	}
}

// P0.5: masters know nothing of each other.
func TestMastersAreApart(t *testing.T) {
	var a, b asset.Master
	add(t, &a, bond(), nil)
	add(t, &b, sample(5), nil)
	add(t, &b, money(), nil)
	check(t, &a, map[int]api.Asset{5: bond()})
	check(t, &b, map[int]api.Asset{5: sample(5), 6: money()})
}
