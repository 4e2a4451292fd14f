package ratio_test

import (
	"math/big"
	"strings"
	"testing"

	"girdle/api"
	"girdle/ratio"
)

// P4.4

// reads tells whether a text is read as that ratio.
func reads(t *testing.T, text string, want *big.Rat) {
	t.Helper()
	got, e := ratio.Parse(text)
	answers(t, "Parse of "+text[:min(len(text), 40)], got, e, want, api.OK)
}

// refused tells whether a text is refused with that error, and 0.
func refused(t *testing.T, text string, want api.Errno) {
	t.Helper()
	got, e := ratio.Parse(text)
	answers(t, "Parse of "+text[:min(len(text), 40)], got, e, nil, want)
}

func TestText(t *testing.T) {
	for _, x := range append(small(), great()...) {
		if got := ratio.Text(ofRat(x)); got != x.RatString() {
			t.Errorf("%.80s, not %.80s", got, x.RatString())
		}
	}
	for text, a := range map[string]api.Rat{"0": ratio.Zero(), "-1/4": ratio.Of(-1, 4), "3": ratio.Of(6, 2), "-3": ratio.Of(3, -1), "1/4294967296": ratio.Of(1, 1<<32)} {
		if got := ratio.Text(a); got != text {
			t.Errorf("%s, not %s", got, text)
		}
	}
}

func TestParse(t *testing.T) {
	for _, x := range small() {
		reads(t, x.RatString(), x)
		reads(t, x.String(), x)
	}
	for text, want := range map[string]*big.Rat{
		"-0.25": big.NewRat(-1, 4), "0": new(big.Rat), "-0": new(big.Rat), "007": big.NewRat(7, 1), "-12": big.NewRat(-12, 1),
		"1/2": big.NewRat(1, 2), "2/4": big.NewRat(1, 2), "-6/4": big.NewRat(-3, 2), "6/3": big.NewRat(2, 1), "0/7": new(big.Rat), "-0/7": new(big.Rat), "010/0100": big.NewRat(1, 10),
		"0.5": big.NewRat(1, 2), "-0.125": big.NewRat(-1, 8), "12.50": big.NewRat(25, 2), "-1.5": big.NewRat(-3, 2), "0.0": new(big.Rat), "-0.0": new(big.Rat), "-00.010": big.NewRat(-1, 100),
		"3.14159": big.NewRat(314159, 100000), "-0.000000000000000001": big.NewRat(-1, 1e18), "100.00": big.NewRat(100, 1), "5.05": big.NewRat(101, 20),
	} {
		reads(t, text, want)
	}
}

func TestParseOfNoRatio(t *testing.T) {
	for _, text := range []string{
		"", "-", "--1", "+1", " 1", "1 ", "x", "1x", "1e3", "\x00", "\xff", "1,5", "\u0661",
		"/", "1/", "/1", "-/1", "-/", "1/-2", "1/+2", "1//2", "1/2/3", "1/ 2", "1 /2", "x/1", "1/x", "--1/2", "1/-", "0x1/2",
		".", "1.", ".5", "-.5", "-.", "-1.", "1.-5", "1.+5", "1..5", "1.2.3", "1. 5", "1 .5", "x.5", "1.x", "--1.5", "1.5e3",
		"1.5/2", "1/2.5", "./", "/.", "1./2", ".1/2", "1/.2", "1/2.",
		"x/0", "/0", "-/0", "1.5/0", // no number ahead of nothing below
	} {
		refused(t, text, api.ErrForm)
	}
	for _, text := range []string{"1/0", "0/0", "-1/0", "-0/000"} {
		refused(t, text, api.ErrZero)
	}
}

func TestParseOfLongRatios(t *testing.T) {
	most := strings.Repeat("7", maxDigits)
	n, _ := new(big.Int).SetString(most, 10)
	reads(t, most, new(big.Rat).SetInt(n))
	reads(t, "-"+most, new(big.Rat).SetInt(new(big.Int).Neg(n)))
	reads(t, most+"/1", new(big.Rat).SetInt(n))
	reads(t, "-"+most+"/"+most, big.NewRat(-1, 1))
	reads(t, "1/"+most, new(big.Rat).SetFrac(big.NewInt(1), n))
	for _, text := range []string{most + "7", "-" + most + "7", most + "7/1", most + "7/0", "1/" + most + "7", "0/" + most + "0", most + "7/" + most + "7", most + "7/x", "1/0" + most} {
		refused(t, text, api.ErrLong)
	}
	for _, text := range []string{most + "x", most + "x/1", "x/" + most + "7", "1/x" + most + "7", "1/-" + most} {
		refused(t, text, api.ErrForm)
	}
}

func TestParseOfManyPlaces(t *testing.T) {
	if ratio.MaxPlaces != maxPlaces {
		t.Fatalf("MaxPlaces is %d", ratio.MaxPlaces)
	}
	ten := new(big.Int).Exp(big.NewInt(10), big.NewInt(maxPlaces), nil)
	reads(t, "0."+strings.Repeat("0", maxPlaces-1)+"1", new(big.Rat).SetFrac(big.NewInt(1), ten))
	reads(t, "-1."+strings.Repeat("0", maxPlaces), big.NewRat(-1, 1))
	reads(t, "0."+strings.Repeat("9", maxPlaces), new(big.Rat).SetFrac(new(big.Int).Sub(ten, big.NewInt(1)), ten))
	// How many there are is told ahead of what they are, and of what is ahead of them.
	for _, text := range []string{"0." + strings.Repeat("0", maxPlaces+1), "-1." + strings.Repeat("x", maxPlaces+1), "x." + strings.Repeat("9", maxPlaces+1), "." + strings.Repeat(".", maxPlaces+1), "0." + strings.Repeat("0", 1<<20)} {
		refused(t, text, api.ErrLong)
	}
	refused(t, "0."+strings.Repeat("x", maxPlaces), api.ErrForm)
	refused(t, "0."+strings.Repeat("0", maxPlaces+1)+"/1", api.ErrForm) // there is a / too
	// Bytes are counted, not signs.
	refused(t, "0."+strings.Repeat("\u0661", maxPlaces/2), api.ErrForm)
	refused(t, "0."+strings.Repeat("\u0661", maxPlaces/2+1), api.ErrLong)
}

func TestParseOfBothSidesTogether(t *testing.T) {
	ahead, behind := strings.Repeat("3", maxDigits-maxPlaces), strings.Repeat("1", maxPlaces)
	num, _ := new(big.Int).SetString(ahead+behind, 10)
	want := new(big.Rat).SetFrac(num, new(big.Int).Exp(big.NewInt(10), big.NewInt(maxPlaces), nil))
	reads(t, ahead+"."+behind, want)
	reads(t, "-"+ahead+"."+behind, want.Neg(want))
	refused(t, "3"+ahead+"."+behind, api.ErrLong)
	refused(t, "-0"+ahead+"."+behind, api.ErrLong)
	most := strings.Repeat("3", maxDigits)
	refused(t, most+".1", api.ErrLong)
	refused(t, most+"3.1", api.ErrLong)
	refused(t, most+"3.x", api.ErrLong)
	refused(t, most+".x", api.ErrForm)
	refused(t, "x"+most+".1", api.ErrForm)
}
