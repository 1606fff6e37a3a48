package bounded

import (
	"errors"
	"testing"

	"bounded/api"
	"bounded/refusal"
)

func TestARefusalIsAnswered(t *testing.T) {
	if errno, line := outcome(func() { refusal.Raise(api.ErrTwice, 7) }); errno != api.ErrTwice || line != 7 {
		t.Errorf("outcome = %d, %d, want ErrTwice, 7", errno, line)
	}
	if errno, line := outcome(func() {}); errno != api.OK || line != 0 {
		t.Errorf("outcome = %d, %d, want OK, 0", errno, line)
	}
}

func TestAnyOtherPanicIsToldOn(t *testing.T) {
	other := errors.New("a mistake of the program's own")
	defer func() {
		if found := recover(); found != other {
			t.Errorf("told on: %v, want %v", found, other)
		}
	}()
	outcome(func() { panic(other) })
	t.Error("the panic was kept")
}
