package lexical_test

import (
	"fmt"
	"math/rand"
	"strings"
	"testing"

	"casuist/lexical"
)

func TestP94ReadDays(t *testing.T) {
	for text, want := range map[string]int{
		"PT0S":                           0,
		"P0D":                            0,
		"PT0H":                           0,
		"PT0M":                           0,
		"P0DT0H0M0S":                     0,
		"-PT0S":                          0,
		"-P0D":                           0,
		"PT1S":                           1,
		"PT1M":                           60,
		"PT1H":                           3600,
		"P1D":                            86400,
		"P1DT1S":                         86401,
		"P1DT1M":                         86460,
		"P1DT1H":                         90000,
		"P1DT1H1M":                       90060,
		"P1DT1H1S":                       90001,
		"P1DT1M1S":                       86461,
		"P1DT1H1M1S":                     90061,
		"PT1H1M":                         3660,
		"PT1H1S":                         3601,
		"PT1M1S":                         61,
		"PT1H1M1S":                       3661,
		"-P2D":                           -172800,
		"-PT1S":                          -1,
		"-P1DT1H1M1S":                    -90061,
		"PT36H":                          129600,
		"PT90M":                          5400,
		"PT100S":                         100,
		"PT61M61S":                       3721,
		"P01D":                           86400,
		"PT007S":                         7,
		"P000000000001D":                 86400,
		"PT000000000000S":                0,
		"PT000000000001H000000000002M3S": 3723,
		"PT999999999999S":                999999999999,
		"PT999999999999M":                59999999999940,
		"PT999999999999H":                3599999999996400,
		"-PT999999999999H":               -3599999999996400,
		"P104249991374D":                 104249991374 * 86400,
		"P104249991374DT7H36M32S":        1 << 53,
		"-P104249991374DT7H36M32S":       -1 << 53,
		"P104249991374DT7H36M31S":        1<<53 - 1,
		"P104249991374DT27392S":          1 << 53,
		"P104249991373DT31H36M32S":       1 << 53,
		"PT999999999999H999999999999M":   3599999999996400 + 59999999999940,
		"P62571750633DT999999999999H999999999999S": 62571750633*86400 + 3599999999996400 + 999999999999,
	} {
		if got, ok := lexical.ReadDays(text); got != want || !ok {
			t.Errorf("ReadDays(%q) = %d, %v, not %d", text, got, ok, want)
		}
	}
}

func TestP94ReadMonths(t *testing.T) {
	for text, want := range map[string]int{
		"P0M":                                0,
		"P0Y":                                0,
		"P0Y0M":                              0,
		"-P0M":                               0,
		"-P0Y0M":                             0,
		"P1M":                                1,
		"P1Y":                                12,
		"P1Y2M":                              14,
		"P14M":                               14,
		"P2Y36M":                             60,
		"-P1Y":                               -12,
		"-P1M":                               -1,
		"-P1Y2M":                             -14,
		"P01Y02M":                            14,
		"P000000000000001Y":                  12,
		"P000000000000000Y000000000000001M":  1,
		"P1000000000000Y":                    12000000000000,
		"P999999999999999M":                  999999999999999,
		"-P999999999999999M":                 -999999999999999,
		"P750599937895082Y":                  1<<53 - 8,
		"P750599937895082Y8M":                1 << 53,
		"-P750599937895082Y8M":               -1 << 53,
		"P750599937895082Y7M":                1<<53 - 1,
		"P750599937895081Y20M":               1 << 53,
		"P667266604561749Y999999999999999M":  667266604561749*12 + 999999999999999,
		"-P667266604561749Y000000000000004M": -667266604561749*12 - 4,
		"P667266604561749Y999999999999989M":  667266604561749*12 + 999999999999989,
		"P000000000000012Y000000000000000M":  144,
		"-P000000000000000Y000000000000000M": 0,
		"P100000000000000Y100000000000000M":  1300000000000000,
		"-P100000000000000Y100000000000000M": -1300000000000000,
		"P123456789012345M":                  123456789012345,
		"P000000000000001Y999999999999999M":  1000000000000011,
		"-P700000000000000Y600000000000000M": -9000000000000000,
		"P700000000000000Y607199254740992M":  1 << 53,
		"-P700000000000000Y607199254740992M": -1 << 53,
		"P700000000000000Y607199254740991M":  1<<53 - 1,
		"-P700000000000000Y607199254740991M": 1 - 1<<53,
		"P000000000000000Y607199254740991M":  607199254740991,
		"-P000000000000001Y000000000000001M": -13,
	} {
		if got, ok := lexical.ReadMonths(text); got != want || !ok {
			t.Errorf("ReadMonths(%q) = %d, %v, not %d", text, got, ok, want)
		}
	}
}

// Texts that are no duration's at all.
func TestP94None(t *testing.T) {
	for _, s := range []string{
		"", "-", "P", "-P", "PT", "-PT", "T", "D", "1", "1D", "1M", "T1S", "1DT1S", "P1", "P1D1", "PT1", "PD", "PM", "PY", "PTS", "PTH", "PTM", "PDT1S", "P1DTS", "P1YM",
		"P1DT", "-P1DT", "P0DT", "PT1H1", "P1DT1", "PT1HM", "PT1H M", "P1YT", "P1MT", "P1Y2",
		"PT1S1M", "PT1S1H", "PT1M1H", "PT1S1M1H", "PT1M1S1H", "P1M1Y", "P1DT1M1H", "PT1H1D", "PT1D", "P1S", "P1H", "P1DT1D", "PT1S1D", "P1H1D",
		"P1D1D", "PT1H1H", "PT1M1M", "PT1S1S", "PT1H1M1H", "P1Y1Y", "P1M1M", "P1Y1M1Y", "P1Y1M1M", "PTT1S", "PT1HT1M", "P1DTT1H", "P1TD", "PT1ST",
		"P1W", "P1Y1D", "P1Y1M1D", "P1M1D", "P1D1M", "P1YT1H", "P1Y1MT1H", "P1Y2MT", "PT1Y", "PT1H1Y",
		"+P1D", "+P1M", "--P1D", "--P1M", "-+P1D", "+-P1M", "P-1D", "P+1D", "P-1M", "P+1M", "PT-1S", "PT+1S", "P1D-T1S", "P1DT-1S", "P1Y-2M", "P1-D", "P1D-", "P1M-", "PP1D", "PP1M", "P-P1D",
		" P1D", "P1D ", "P 1D", "P1 D", "PT 1S", "- P1D", " P1M", "P1M ", "P 1M", "P1 M", "P1Y 2M", "P1D T1S", "P1D\n", "P1M\n", "\tP1M", "P1D\x00",
		"p1D", "p1M", "P1d", "P1m", "P1y", "Pt1S", "PT1s", "PT1h", "PT1m", "-p1d", "P1Dt1S",
		"P/D", "P/M", "P1/D", "P/1M", "P:D", "P1:M", "PT/S", "P1.5D", "PT1.5S", "PT0.5S", "P1.5M", "P.D", "P1,5D", "PT1.S", "P1E3D", "P0x1D", "P1_0D", "P1_0M",
		"P\u0663D", "P\u0663M", "P\uff11D", "P\uff11Y", "P1\uff24", "P1\uff2d", "\uff301D", "PT1\u00b2S", "P\xffD", "P1D\xff", "\xffP1D", "P1\xffD", "PT1S\xc3", "P1M\xff", "\xffP1M", "P1Y\xff2M", "\u04201D", "P1\u041c", "\u2212P1D", "\u2212P1M",
		"P2024-02-29", "P0000-00-01T00:00:00",
	} {
		checkNothing(t, s)
	}
}

// One kind's text is not the other one's: no M is both.
func TestP94OtherKind(t *testing.T) {
	for _, s := range []string{"P1M", "P1Y", "P1Y2M", "-P1M", "P0M", "P14M"} {
		if got, ok := lexical.ReadDays(s); got != 0 || ok {
			t.Errorf("ReadDays(%q) = %d, %v", s, got, ok)
		}
	}
	for _, s := range []string{"P1D", "PT1M", "PT1S", "PT0S", "-P1D", "P1DT1M", "PT1H", "P0D"} {
		if got, ok := lexical.ReadMonths(s); got != 0 || ok {
			t.Errorf("ReadMonths(%q) = %d, %v", s, got, ok)
		}
	}
}

func TestP94TooLong(t *testing.T) {
	for _, s := range []string{
		"P104249991374DT7H36M33S", "-P104249991374DT7H36M33S", "P104249991374DT7H37M32S", "P104249991374DT8H", "P104249991374DT27393S", "P104249991373DT31H36M33S", "P104249991375D", "P999999999999D", "-P999999999999D", "P999999999999DT999999999999H999999999999M999999999999S", "-P999999999999DT999999999999H999999999999M999999999999S",
		"P62571750634DT999999999999H999999999999S",
		"P750599937895082Y9M", "-P750599937895082Y9M", "P750599937895083Y", "P750599937895081Y21M", "P999999999999999Y", "P999999999999999Y999999999999999M", "-P999999999999999Y999999999999999M", "P700000000000000Y607199254740993M",
	} {
		checkNothing(t, s)
	}
}

// Numbers of 12 digits and of 13, of 15 and of 16: their noughts ahead count.
func TestP94TooManyDigits(t *testing.T) {
	for _, form := range []string{"P%sD", "PT%sH", "PT%sM", "PT%sS", "P1DT%sS", "PT1H%sM2S", "-PT%sS"} {
		for digits := 1; digits <= 40; digits++ {
			for _, size := range []string{"0", "1"} {
				s := fmt.Sprintf(form, strings.Repeat("0", digits-1)+size)
				if _, ok := lexical.ReadDays(s); ok != (digits <= 12) {
					t.Errorf("ReadDays(%q): %v", s, ok)
				}
				checkReadDays(t, s)
			}
			checkReadDays(t, fmt.Sprintf(form, strings.Repeat("1", digits)))
			checkReadDays(t, fmt.Sprintf(form, "1"+strings.Repeat("0", digits-1)))
		}
	}
	for _, form := range []string{"P%sY", "P%sM", "P1Y%sM", "P%sY1M", "-P%sM"} {
		for digits := 1; digits <= 40; digits++ {
			for _, size := range []string{"0", "1"} {
				s := fmt.Sprintf(form, strings.Repeat("0", digits-1)+size)
				if _, ok := lexical.ReadMonths(s); ok != (digits <= 15) {
					t.Errorf("ReadMonths(%q): %v", s, ok)
				}
				checkReadMonths(t, s)
			}
			checkReadMonths(t, fmt.Sprintf(form, strings.Repeat("1", digits)))
			checkReadMonths(t, fmt.Sprintf(form, "1"+strings.Repeat("0", digits-1)))
		}
	}
	for _, s := range []string{"P1234567890123D", "PT1234567890123S", "P9007199254740992M", "P1234567890123456M", "PT9007199254740992S", "PT18446744073709551617S", "P18446744073709551617M", "P18446744073709551617D"} {
		checkNothing(t, s)
	}
}

// Each part left out or there, in each order: only those that are in theirs are taken.
func TestP94EachOrder(t *testing.T) {
	parts := []string{"1Y", "2M", "3D", "T", "4H", "5M", "6S", "7"}
	var all func(s string, left int)
	all = func(s string, left int) {
		checkReadDays(t, s)
		checkReadMonths(t, s)
		if left == 0 {
			return
		}
		for _, x := range parts {
			all(s+x, left-1)
		}
	}
	all("P", 5)
	all("-P", 4)
	all("", 4)
}

func TestP94ShortTexts(t *testing.T) {
	var all func(s string, left int)
	all = func(s string, left int) {
		checkReadDays(t, s)
		checkReadMonths(t, s)
		if left == 0 {
			return
		}
		for _, x := range "-+PTYMDHS01/:" {
			all(s+string(x), left-1)
		}
	}
	all("", 5)
	all("PT", 4)
	all("P1DT", 4)
}

func TestP94NearTexts(t *testing.T) {
	for _, s := range []string{"PT0S", "P0M", "P1D", "-P1DT1H1M1S", "P1Y2M", "-P14M", "PT36H", "P104249991374DT7H36M32S", "-P750599937895082Y8M", "P000000000001D", "PT999999999999S", "P999999999999999M"} {
		for _, x := range near(s) {
			checkReadAll(t, x)
		}
	}
}

func TestP94SomeTexts(t *testing.T) {
	r := rand.New(rand.NewSource(94))
	digits := func() string {
		text := fmt.Sprint(r.Intn(1 << 53))
		return strings.Repeat("0", r.Intn(3)) + text[r.Intn(len(text)):]
	}
	for range 50000 {
		var s strings.Builder
		if r.Intn(4) == 0 {
			s.WriteString("-")
		}
		s.WriteString("P")
		letters := []string{"DTHMS", "YM"}[r.Intn(2)]
		for _, letter := range letters {
			if letter == 'T' {
				s.WriteString("T")
			} else if r.Intn(3) != 0 {
				s.WriteString(digits() + string(letter))
			}
		}
		checkReadDays(t, s.String())
		checkReadMonths(t, s.String())
	}
}

// Texts whose sums are at the greatest duration, and about it.
func TestP94SumsAtTheEnd(t *testing.T) {
	r := rand.New(rand.NewSource(940))
	for range 20000 {
		n := 1<<53 + r.Intn(5) - 2
		days := n/86400 - r.Intn(1000)
		hours := r.Intn((n - days*86400) / 3600)
		minutes := r.Intn((n - days*86400 - hours*3600) / 60)
		seconds := n - days*86400 - hours*3600 - minutes*60
		years := n/12 - r.Intn(1000000)
		for _, sign := range []string{"", "-"} {
			s := fmt.Sprintf("%sP%dDT%dH%dM%dS", sign, days, hours, minutes, seconds)
			if _, ok := lexical.ReadDays(s); ok != (n <= 1<<53) {
				t.Errorf("ReadDays(%q): %v", s, ok)
			}
			checkReadDays(t, s)
			s = fmt.Sprintf("%sP%dY%dM", sign, years, n-years*12)
			if _, ok := lexical.ReadMonths(s); ok != (n <= 1<<53) {
				t.Errorf("ReadMonths(%q): %v", s, ok)
			}
			checkReadMonths(t, s)
		}
	}
}
