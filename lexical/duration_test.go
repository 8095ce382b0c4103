package lexical_test

import (
	"math"
	"math/rand"
	"testing"

	"casuist/lexical"
)

func TestP93Days(t *testing.T) {
	for n, text := range map[int]string{
		0:             "PT0S",
		1:             "PT1S",
		59:            "PT59S",
		60:            "PT1M",
		61:            "PT1M1S",
		3540:          "PT59M",
		3599:          "PT59M59S",
		3600:          "PT1H",
		3601:          "PT1H1S",
		3660:          "PT1H1M",
		3661:          "PT1H1M1S",
		82800:         "PT23H",
		86399:         "PT23H59M59S",
		86400:         "P1D",
		86401:         "P1DT1S",
		86460:         "P1DT1M",
		90000:         "P1DT1H",
		90001:         "P1DT1H1S",
		90061:         "P1DT1H1M1S",
		864000:        "P10D",
		8640000:       "P100D",
		31536000:      "P365D",
		-1:            "-PT1S",
		-60:           "-PT1M",
		-3600:         "-PT1H",
		-86400:        "-P1D",
		-172800:       "-P2D",
		-90061:        "-P1DT1H1M1S",
		-86399:        "-PT23H59M59S",
		1 << 53:       "P104249991374DT7H36M32S",
		-1 << 53:      "-P104249991374DT7H36M32S",
		1<<53 - 1:     "P104249991374DT7H36M31S",
		1<<53 - 27392: "P104249991374D",
	} {
		if got := lexical.Days(n); got != text {
			t.Errorf("Days(%d) = %q, not %q", n, got, text)
		}
	}
}

func TestP93Months(t *testing.T) {
	for n, text := range map[int]string{
		0:         "P0M",
		1:         "P1M",
		11:        "P11M",
		12:        "P1Y",
		13:        "P1Y1M",
		14:        "P1Y2M",
		23:        "P1Y11M",
		24:        "P2Y",
		120:       "P10Y",
		1200:      "P100Y",
		-1:        "-P1M",
		-11:       "-P11M",
		-12:       "-P1Y",
		-14:       "-P1Y2M",
		-24:       "-P2Y",
		1 << 53:   "P750599937895082Y8M",
		-1 << 53:  "-P750599937895082Y8M",
		1<<53 - 8: "P750599937895082Y",
	} {
		if got := lexical.Months(n); got != text {
			t.Errorf("Months(%d) = %q, not %q", n, got, text)
		}
	}
}

func TestP93TooLong(t *testing.T) {
	for _, n := range []int{1<<53 + 1, -1<<53 - 1, 1<<53 + 86400, -1<<53 - 86400, 1 << 54, -1 << 54, 1 << 62, -1 << 62, math.MaxInt, math.MaxInt - 1, math.MinInt, math.MinInt + 1} {
		if got := lexical.Days(n); got != "" {
			t.Errorf("Days(%d) = %q", n, got)
		}
		if got := lexical.Months(n); got != "" {
			t.Errorf("Months(%d) = %q", n, got)
		}
	}
}

// checkSpan holds a duration's texts against the words, and that they are read again.
func checkSpan(t *testing.T, n int) {
	t.Helper()
	days, months := lexical.Days(n), lexical.Months(n)
	if want := daysModel(n); days != want {
		t.Errorf("Days(%d) = %q, not %q", n, days, want)
	}
	if want := monthsModel(n); months != want {
		t.Errorf("Months(%d) = %q, not %q", n, months, want)
	}
	if n < -1<<53 || n > 1<<53 {
		return
	}
	if got, ok := lexical.ReadDays(days); got != n || !ok {
		t.Errorf("ReadDays(%q) = %d, %v, not %d", days, got, ok, n)
	}
	if got, ok := lexical.ReadMonths(months); got != n || !ok {
		t.Errorf("ReadMonths(%q) = %d, %v, not %d", months, got, ok, n)
	}
}

func TestP93ByTheWords(t *testing.T) {
	for n := -100000; n <= 100000; n++ {
		checkSpan(t, n)
	}
	for _, n := range []int{math.MinInt, math.MinInt + 1, -1 << 53, 1 << 53, math.MaxInt} {
		for off := -100; off <= 100; off++ {
			checkSpan(t, n+off)
		}
	}
	r := rand.New(rand.NewSource(93))
	for range 50000 {
		checkSpan(t, someSpan(r))
		checkSpan(t, int(r.Uint64())>>r.Intn(64))
	}
}
