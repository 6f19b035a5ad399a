package outcry_test

import (
	"math"
	"testing"

	"outcry/api"
	"outcry/outcry"
)

func plainConfig() api.Config {
	return api.Config{Reference: 100, Open: 10, Close: 20, End: 30, Orders: 5, Total: 50}
}

// limits tells for each field of the plain configuration, the other ones being
// as they are, the lowest and the highest number that it may have.
var limits = []struct {
	name     string
	field    func(c *api.Config) *int
	from, to int
}{
	{"Reference", func(c *api.Config) *int { return &c.Reference }, 1, 1000000},
	{"Open", func(c *api.Config) *int { return &c.Open }, 1, 19},
	{"Close", func(c *api.Config) *int { return &c.Close }, 11, 29},
	{"End", func(c *api.Config) *int { return &c.End }, 21, 1000000},
	{"Orders", func(c *api.Config) *int { return &c.Orders }, 1, 24},
	{"Total", func(c *api.Config) *int { return &c.Total }, 1, 1000000000},
}

func wantMarket(t *testing.T, c api.Config) {
	t.Helper()
	m, errno := outcry.New(c)
	if m == nil || errno != api.OK {
		t.Errorf("P3: New(%+v) = %v, %d, want a market", c, m, errno)
		return
	}
	wantNew(t, m, c)
}

func wantNew(t *testing.T, m *outcry.Market, c api.Config) {
	t.Helper()
	want := api.Look{Phase: 0, Time: 0, Reference: c.Reference, Seq: 0}
	if look := m.Look(); look != want {
		t.Errorf("P3, P8: Look() of New(%+v) = %+v, want %+v", c, look, want)
	}
	if orders := m.Orders(); len(orders) != 0 {
		t.Errorf("P3, P8: Orders() of New(%+v) = %+v, want none", c, orders)
	}
}

func wantNoMarket(t *testing.T, c api.Config) {
	t.Helper()
	if m, errno := outcry.New(c); m != nil || errno != api.ErrConfig {
		t.Errorf("P3: New(%+v) = %v, %d, want nil, ErrConfig", c, m, errno)
	}
}

func TestEachLimitOfAConfiguration(t *testing.T) {
	for _, l := range limits {
		t.Run(l.name, func(t *testing.T) {
			with := func(n int) api.Config {
				c := plainConfig()
				*l.field(&c) = n
				return c
			}
			for _, n := range []int{l.from, l.from + 1, (l.from + l.to) / 2, l.to - 1, l.to} {
				wantMarket(t, with(n))
			}
			for _, n := range []int{
				l.from - 1, l.to + 1, 0, -1, -l.from, -l.to,
				math.MinInt, math.MinInt + 1, math.MaxInt - 1, math.MaxInt,
				1<<32 + l.from, 1<<32 + l.to, math.MinInt + l.from, math.MinInt + l.to,
			} {
				wantNoMarket(t, with(n))
			}
		})
	}
}

func TestAllLimitsAtOnce(t *testing.T) {
	lowest := api.Config{Reference: 1, Open: 1, Close: 2, End: 3, Orders: 1, Total: 1}
	highest := api.Config{Reference: 1000000, Open: 999998, Close: 999999, End: 1000000, Orders: 24, Total: 1000000000}
	for _, c := range []api.Config{plainConfig(), lowest, highest} {
		wantMarket(t, c)
	}
	wantMarket(t, api.Config{Reference: 1, Open: 1, Close: 2, End: 1000000, Orders: 24, Total: 1})
	for _, l := range limits {
		below, above := lowest, highest
		*l.field(&below)--
		*l.field(&above)++
		wantNoMarket(t, below)
		wantNoMarket(t, above)
	}
	for _, n := range []int{math.MinInt, -1, 0, 1, math.MaxInt} {
		wantNoMarket(t, api.Config{Reference: n, Open: n, Close: n, End: n, Orders: n, Total: n})
	}
}

func TestTurnsOutOfOrder(t *testing.T) {
	for _, turns := range [][3]int{
		{10, 10, 10}, {10, 10, 20}, {10, 20, 20}, {10, 20, 10}, {20, 10, 30}, {10, 30, 20}, {30, 20, 10},
		{0, 0, 0}, {0, 1, 2}, {-1, 1, 2}, {-3, -2, -1}, {999999, 1000000, 1000001},
		{math.MinInt, math.MinInt + 1, math.MinInt + 2},
		{math.MaxInt - 2, math.MaxInt - 1, math.MaxInt},
		{math.MinInt, 0, math.MaxInt}, {1, 2, math.MaxInt}, {math.MaxInt, math.MinInt, 1},
	} {
		c := plainConfig()
		c.Open, c.Close, c.End = turns[0], turns[1], turns[2]
		wantNoMarket(t, c)
	}
}

func TestMarketsStandAlone(t *testing.T) {
	var markets []*outcry.Market
	var configs []api.Config
	for reference := 1; reference <= 3; reference++ {
		c := plainConfig()
		c.Reference = reference
		m, errno := outcry.New(c)
		if m == nil || errno != api.OK {
			t.Fatalf("P3: New(%+v) = %v, %d", c, m, errno)
		}
		markets, configs = append(markets, m), append(configs, c)
	}
	// Twice: looking at a market changes neither it nor another one.
	for range 2 {
		for i, m := range markets {
			wantNew(t, m, configs[i])
		}
	}
}

func TestOrdersAreTheCallers(t *testing.T) {
	m, _ := outcry.New(plainConfig())
	first := m.Orders()
	for i := range first[:cap(first)] {
		first[:cap(first)][i] = api.Order{Id: 99, Rest: 99}
	}
	second := m.Orders()
	for _, o := range second[:cap(second)] {
		if o.Id == 99 {
			t.Errorf("P2: two answers of Orders() share memory")
		}
	}
	wantNew(t, m, plainConfig())
}
