package config_test

import (
	"fmt"
	"regexp"
	"strconv"
	"strings"
	"testing"

	"proctor/api"
	"proctor/config"
)

// dice is a source of numbers that is the same in every run.
type dice uint64

func (d *dice) below(n int) int {
	*d = *d*6364136223846793005 + 1442695040888963407
	return int(uint64(*d) >> 33 % uint64(n))
}

// number is mostly within a field's bounds or just outside of them.
func (d *dice) number(f field) int {
	switch d.below(24) {
	case 0:
		return f.most + 1
	case 1:
		return f.least - 1
	case 2:
		return f.most
	case 3:
		return f.least
	}
	return f.least + (d.below(1<<30)<<20+d.below(1<<20))>>d.below(50)%(f.most-f.least+1)
}

func (d *dice) config() api.Config {
	var c api.Config
	for _, f := range fields {
		*f.of(&c) = d.number(f)
	}
	return c
}

// settings are some settings in some order, seldom one of them twice.
func (d *dice) settings() string {
	var list []string
	var seen [5]bool
	for range d.below(6) {
		i := d.below(len(fields))
		if seen[i] && d.below(12) > 0 {
			continue
		}
		seen[i] = true
		list = append(list, fields[i].says(max(0, d.number(fields[i]))))
	}
	return strings.Join(list, " ")
}

// spoilt changes a text a little, mostly by bytes that texts are made of.
func (d *dice) spoilt(s string) string {
	for range d.below(3) {
		const parts = "0019=  fanepslimitE#-\n\t\x00\xff"
		at := d.below(len(s) + 1)
		piece := string([]byte{parts[d.below(len(parts))]})
		switch kind := d.below(5); {
		case kind == 0:
			s = s[:at]
		case kind == 1:
			s = s[:at] + piece + s[at:]
		case at == len(s):
		case kind == 2:
			s = s[:at] + s[at+1:]
		case kind == 3 && s[at] >= '0' && s[at] <= '9':
			s = s[:at] + strconv.Itoa(d.below(30)) + s[at+1:]
		default:
			s = s[:at] + piece + s[at+1:]
		}
	}
	return s
}

var textForm = regexp.MustCompile(`\A(?:(?:budget|fan|state|eps|limit)=(?:0|[1-9][0-9]{0,14})(?: (?:budget|fan|state|eps|limit)=(?:0|[1-9][0-9]{0,14}))*)?\z`)

// modelCheck says the bounds as the chapter does.
func modelCheck(c api.Config) api.Errno {
	switch {
	case c.Budget < 1200 || c.Budget > 16777216:
		return api.ErrBudget
	case c.Fan < 2 || c.Fan > 64:
		return api.ErrFan
	case c.State < 0 || c.State > 1048576:
		return api.ErrLimit
	case c.Eps < 0 || c.Eps > 1099511627776:
		return api.ErrEps
	case c.Limit < 0 || c.Limit > 10000:
		return api.ErrMost
	}
	return api.OK
}

func modelPrint(c api.Config) string {
	return fmt.Sprintf("budget=%d fan=%d state=%d eps=%d limit=%d", c.Budget, c.Fan, c.State, c.Eps, c.Limit)
}

// modelParse holds the text against the form as a whole, and then looks for
// each name.
func modelParse(s string) (api.Config, api.Errno) {
	if !textForm.MatchString(s) {
		return api.Config{}, api.ErrSetting
	}
	c := usual
	for _, f := range fields {
		m := regexp.MustCompile(`\b`+f.name+`=([0-9]+)`).FindAllStringSubmatch(s, -1)
		if len(m) > 1 {
			return api.Config{}, api.ErrSetting
		}
		if len(m) == 1 {
			*f.of(&c), _ = strconv.Atoi(m[0][1])
		}
	}
	if e := modelCheck(c); e != api.OK {
		return api.Config{}, e
	}
	return c, api.OK
}

// hold holds Parse against the model.
func hold(t *testing.T, s string) api.Errno {
	t.Helper()
	want, e := modelParse(s)
	if e == api.OK {
		parses(t, s, want)
	} else {
		fails(t, s, e)
	}
	return e
}

func seenOften(t *testing.T, seen map[api.Errno]int, list ...api.Errno) {
	t.Helper()
	for _, e := range list {
		if seen[e] < 250 {
			t.Errorf("%d was seen %d times only", e, seen[e])
		}
	}
}

// P23.1 to P23.3: configs that are right or nearly so, and their texts.
func TestModelPrint(t *testing.T) {
	d := dice(23)
	seen := map[api.Errno]int{}
	for range 20000 {
		c := d.config()
		e := modelCheck(c)
		seen[e]++
		if e == api.OK {
			right(t, c, modelPrint(c))
		} else {
			wrong(t, c, e)
		}
		hold(t, modelPrint(c))
		if t.Failed() {
			t.FailNow()
		}
	}
	seenOften(t, seen, api.OK, api.ErrBudget, api.ErrFan, api.ErrLimit, api.ErrEps, api.ErrMost)
}

// P23.3: texts that are right or nearly so; what is taken is told by its text.
func TestModelParse(t *testing.T) {
	d := dice(233)
	seen := map[api.Errno]int{}
	for range 40000 {
		s := d.spoilt(d.settings())
		e := hold(t, s)
		seen[e]++
		if c, _ := config.Parse(s); e == api.OK {
			right(t, c, modelPrint(c))
		}
		if t.Failed() {
			t.FailNow()
		}
	}
	seenOften(t, seen, api.OK, api.ErrSetting, api.ErrBudget, api.ErrFan, api.ErrLimit, api.ErrEps, api.ErrMost)
}
