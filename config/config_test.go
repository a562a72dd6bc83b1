package config_test

import (
	"math"
	"strconv"
	"strings"
	"testing"

	"proctor/api"
	"proctor/config"
)

const usualText = "budget=4096 fan=8 state=1048576 eps=0 limit=100"

var usual = api.Config{Budget: 4096, Fan: 8, State: 1048576, Eps: 0, Limit: 100}

// field is one setting as the chapter names it.
type field struct {
	name        string
	of          func(c *api.Config) *int
	least, most int
	wrong       api.Errno
}

var fields = []field{
	{"budget", func(c *api.Config) *int { return &c.Budget }, 1200, 1 << 24, api.ErrBudget},
	{"fan", func(c *api.Config) *int { return &c.Fan }, 2, 64, api.ErrFan},
	{"state", func(c *api.Config) *int { return &c.State }, 0, 1 << 20, api.ErrLimit},
	{"eps", func(c *api.Config) *int { return &c.Eps }, 0, 1 << 40, api.ErrEps},
	{"limit", func(c *api.Config) *int { return &c.Limit }, 0, 10000, api.ErrMost},
}

func (f field) says(n int) string { return f.name + "=" + strconv.Itoa(n) }

func (f field) takes(n int) bool { return n >= f.least && n <= f.most }

func parses(t *testing.T, s string, want api.Config) {
	t.Helper()
	if c, e := config.Parse(s); c != want || e != api.OK {
		t.Errorf("Parse(%q) = %+v, %d; want %+v", s, c, e, want)
	}
}

func fails(t *testing.T, s string, want api.Errno) {
	t.Helper()
	if c, e := config.Parse(s); c != (api.Config{}) || e != want {
		t.Errorf("Parse(%q) = %+v, %d; want %d", s, c, e, want)
	}
}

// right holds a config and its text against each other both ways.
func right(t *testing.T, c api.Config, want string) {
	t.Helper()
	if e := config.Check(c); e != api.OK {
		t.Errorf("Check(%+v) = %d", c, e)
	}
	if s, e := config.Print(c); s != want || e != api.OK {
		t.Errorf("Print(%+v) = %q, %d; want %q", c, s, e, want)
	}
	parses(t, want, c)
}

func wrong(t *testing.T, c api.Config, want api.Errno) {
	t.Helper()
	if e := config.Check(c); e != want {
		t.Errorf("Check(%+v) = %d; want %d", c, e, want)
	}
	if s, e := config.Print(c); s != "" || e != want {
		t.Errorf("Print(%+v) = %q, %d; want %d", c, s, e, want)
	}
}

// orders calls visit with each order of the list.
func orders(list []string, visit func(list []string)) {
	if len(list) == 0 {
		visit(nil)
		return
	}
	for i := range list {
		var rest []string
		rest = append(append(rest, list[:i]...), list[i+1:]...)
		orders(rest, func(tail []string) { visit(append([]string{list[i]}, tail...)) })
	}
}

// P23.1 to P23.3: the examples.
func TestExamples(t *testing.T) {
	parses(t, "", usual)
	parses(t, "eps=5 budget=1200", api.Config{Budget: 1200, Fan: 8, State: 1048576, Eps: 5, Limit: 100})
	fails(t, "budget=1199", api.ErrBudget)
	for _, s := range []string{"eps=5  fan=2", "eps=05", "eps=5 eps=5", "Eps=5", " "} {
		fails(t, s, api.ErrSetting)
	}
	fails(t, "fan=1 budget=1", api.ErrBudget)
	right(t, usual, "budget=4096 fan=8 state=1048576 eps=0 limit=100")
}

// P23.1: the usual config, the same at each call.
func TestUsual(t *testing.T) {
	c := config.Usual()
	if c != usual {
		t.Errorf("Usual() = %+v", c)
	}
	c.Budget, c.Limit = 0, 0
	if config.Usual() != usual {
		t.Errorf("Usual() = %+v", config.Usual())
	}
}

// P23.1 to P23.3: the bounds of each field, from both sides.
func TestBounds(t *testing.T) {
	for _, f := range fields {
		for _, n := range []int{
			math.MinInt, -1 << 56, -1 << 32, -4096, -2, -1, 0, 1, 2, 3, 8, 63, 64, 65, 100, 1199, 1200, 1201, 4096, 9999, 10000, 10001, 1<<20 - 1, 1 << 20, 1<<20 + 1,
			1<<24 - 1, 1 << 24, 1<<24 + 1, 1 << 32, 1<<32 + 8, 1<<32 + 4096, 1<<40 - 1, 1 << 40, 1<<40 + 1, 999999999999999, 1<<56 + 4096, math.MaxInt,
		} {
			c := usual
			*f.of(&c) = n
			if f.takes(n) {
				parses(t, f.says(n), c)
				right(t, c, strings.Replace(usualText, f.says(*f.of(&usual)), f.says(n), 1))
				continue
			}
			wrong(t, c, f.wrong)
			if n >= 0 && n <= 999999999999999 {
				fails(t, f.says(n), f.wrong)
			} else {
				fails(t, f.says(n), api.ErrSetting)
			}
		}
	}
}

// P23.2 and P23.3: all fields at their least and their greatest.
func TestGreatest(t *testing.T) {
	right(t, api.Config{Budget: 1200, Fan: 2}, "budget=1200 fan=2 state=0 eps=0 limit=0")
	right(t, api.Config{Budget: 16777216, Fan: 64, State: 1048576, Eps: 1099511627776, Limit: 10000}, "budget=16777216 fan=64 state=1048576 eps=1099511627776 limit=10000")
	wrong(t, api.Config{}, api.ErrBudget)
}

// P23.1 to P23.3: of several fields out of their bounds the first tells the
// error, in whatever order a text has them.
func TestFirstWrong(t *testing.T) {
	for set := 1; set < 1<<len(fields); set++ {
		for _, past := range []bool{false, true} {
			c, want := usual, api.OK
			var list []string
			for i, f := range fields {
				n := f.least - 1
				if past {
					n = f.most + 1
				}
				if set>>i&1 == 0 {
					continue
				}
				*f.of(&c) = n
				if want == api.OK {
					want = f.wrong
				}
				list = append(list, f.says(n))
			}
			wrong(t, c, want)
			if !past {
				// The least of some is 0, and no number is below.
				continue
			}
			orders(list, func(list []string) { fails(t, strings.Join(list, " "), want) })
		}
	}
	fails(t, "limit=10001 eps=0 fan=1", api.ErrFan)
	fails(t, "eps=1099511627777 state=1048577 limit=0", api.ErrLimit)
}

// P23.3: some of the settings or all, in any order; the others are usual.
func TestSome(t *testing.T) {
	numbers := []int{5000, 9, 77, 12, 3}
	for set := range 1 << len(fields) {
		c := usual
		var list []string
		for i, f := range fields {
			if set>>i&1 == 1 {
				*f.of(&c) = numbers[i]
				list = append(list, f.says(numbers[i]))
			}
		}
		orders(list, func(list []string) { parses(t, strings.Join(list, " "), c) })
	}
}

// P23.3: a name that comes twice, next to itself or not, with the same number
// or another, or with a number out of its bounds.
func TestTwice(t *testing.T) {
	for _, f := range fields {
		for _, g := range fields {
			a, b, far := f.says(f.least), f.says(f.most), f.says(f.most+1)
			for _, list := range [][]string{{a, a}, {a, b}, {b, a}, {a, far}, {far, a}, {far, far}} {
				fails(t, strings.Join(list, " "), api.ErrSetting)
				if g.name != f.name {
					fails(t, list[0]+" "+g.says(g.most)+" "+list[1], api.ErrSetting)
					fails(t, list[0]+" "+g.says(g.most+1)+" "+list[1], api.ErrSetting)
					fails(t, g.says(g.most)+" "+list[0]+" "+list[1], api.ErrSetting)
				}
			}
		}
	}
	fails(t, usualText+" "+usualText, api.ErrSetting)
	fails(t, usualText+" limit=100", api.ErrSetting)
	fails(t, usualText+" budget=1", api.ErrSetting)
}

// P23.3: what is no setting, alone and beside settings; ErrSetting stands
// ahead of all that Check says.
func TestWrongSettings(t *testing.T) {
	for _, s := range []string{
		"", "=", "==", "5", "=5", "eps", "eps5", "eps=", "eps==5", "=eps=5", "eps=5=", "eps=5=5", "eps=eps", "eps=5eps=5", "5=eps", "eps:5", "eps-5", "eps(5)",
		"Eps=5", "EPS=5", "ep=5", "epss=5", "xeps=5", "e=5", "eps\x00=5", "\x00eps=5", "eps\t=5", "\teps=5", "éps=5", "skew=5", "Budget=4096", "budge=4096", "budgets=4096", "fans=8", "fa=8", "states=5", "stat=5", "limits=5", "limi=5", "lim=5", "#657073=5", "0=5", "most=5", "config=5",
		"eps=05", "eps=00", "eps=-0", "eps=-5", "eps=+5", "eps=5x", "eps=x5", "eps=0x5", "eps=5.0", "eps=5.", "eps=.5", "eps=5e0", "eps=1_000", "eps=1,000", "eps=#35", "eps=-", "eps=#", "eps=\"5\"", "eps=5\x00", "eps=5\n", "eps=\n5", "eps=5\r", "eps=5\t", "eps=\t5", "eps=5;", "eps=5,fan=2", "eps=5\nfan=2", "eps=5\tfan=2", "eps=5;fan=2", "eps=5\u00a0fan=2", "eps=٥", "eps=５", "eps=\xff",
		"eps=000000000000005", "eps=0000000000000005", "eps=1000000000000000", "eps=9999999999999999", "eps=18446744073709551616", "eps=18446744073709551621", "eps=" + strings.Repeat("1", 100),
		"budget=", "fan=", "state=", "limit=", "budget=04096", "fan=08", "state=00", "limit=0100", "budget=4096fan=8",
	} {
		if s != "" {
			fails(t, s, api.ErrSetting)
		}
		fails(t, s+" fan=2", api.ErrSetting)
		fails(t, "fan=2 "+s, api.ErrSetting)
		fails(t, "fan=2 "+s+" limit=7", api.ErrSetting)
		fails(t, "fan=1 "+s, api.ErrSetting)
		fails(t, s+" budget=1", api.ErrSetting)
		fails(t, "fan=2 budget=1199 "+s+" limit=10001", api.ErrSetting)
	}
}

// P23.3: one blank stands between two settings, and none elsewhere.
func TestBlanks(t *testing.T) {
	for _, s := range []string{
		" ", "  ", "   ", " eps=5", "eps=5 ", " eps=5 ", "eps= 5", "eps =5", "eps = 5", "e ps=5", "eps=1 0", "eps=5  fan=2", "eps=5   fan=2", " eps=5 fan=2", "eps=5 fan=2 ", "eps=5 fan=2  ", "eps=5 fan =2", "eps=5 fan= 2",
	} {
		fails(t, s, api.ErrSetting)
	}
	parses(t, "eps=5 fan=2", api.Config{Budget: 4096, Fan: 2, State: 1048576, Eps: 5, Limit: 100})
}

// P23.3: each byte that is put into a text or in place of one of its own.
func TestBytes(t *testing.T) {
	for at := range len(usualText) + 1 {
		for b := range 256 {
			one := string([]byte{byte(b)})
			hold(t, usualText[:at]+one+usualText[at:])
			if at < len(usualText) {
				hold(t, usualText[:at]+one+usualText[at+1:])
			}
		}
		hold(t, usualText[:at])
		hold(t, usualText[at:])
		hold(t, usualText[:at]+usualText[min(at+1, len(usualText)):])
	}
}

// Long texts end, and soon.
func TestLong(t *testing.T) {
	many := strings.Repeat("9", 1<<20)
	for _, s := range []string{
		many, "eps=" + many, many + "=5", "eps=5 " + many, usualText + " " + many, usualText + many, strings.Repeat(" ", 1<<20), strings.Repeat("=", 1<<20), strings.Repeat("eps=5 ", 1<<18), strings.Repeat("x=5 ", 1<<18), usualText + strings.Repeat(" "+usualText, 1<<14),
	} {
		if c, e := config.Parse(s); c != (api.Config{}) || e != api.ErrSetting {
			t.Errorf("Parse of %d bytes = %+v, %d", len(s), c, e)
		}
	}
}
