package console

import (
	"strconv"
	"strings"

	"proctor/adya"
	"proctor/api"
	"proctor/notation"
)

func (d *desk) show(given) (string, api.Errno) {
	lines, _, e := notation.PrintLog(d.list)
	if e != api.OK {
		return "", e
	}
	return lines + done(len(d.list)), api.OK
}

func (d *desk) deps(given) (string, api.Errno) {
	deps, e := adya.Deps(d.list)
	if e != api.OK {
		return "", e
	}
	var lines strings.Builder
	for _, dep := range deps {
		lines.WriteString(depLine(dep))
	}
	return lines.String() + done(len(deps)), api.OK
}

func depLine(d adya.Dep) string {
	return say(depKind(d.Kind), strconv.Itoa(d.From), strconv.Itoa(d.To), notation.Word(d.Key))
}

func depKind(kind int) string {
	switch kind {
	case adya.DepWW:
		return "ww"
	case adya.DepWR:
		return "wr"
	default:
		return "rw"
	}
}

func (d *desk) phenomena(given) (string, api.Errno) {
	kinds, e := adya.Phenomena(d.list)
	if e != api.OK {
		return "", e
	}
	return sayNumbers(kinds), api.OK
}

func (d *desk) serial(given) (string, api.Errno) {
	places, ok, e := adya.Serial(d.list)
	if e != api.OK {
		return "", e
	}
	if !ok {
		return say("none"), api.OK
	}
	return sayNumbers(places), api.OK
}

func sayNumbers(numbers []int) string {
	parts := []string{"ok"}
	for _, n := range numbers {
		parts = append(parts, strconv.Itoa(n))
	}
	return say(parts...)
}
