package valid

import (
	"errors"
	"slices"

	"arboret/api"
)

// fault is what is wrong with the node at a path. What it wraps is a number, or another fault.
type fault struct {
	path string
	err  error
}

func (f fault) Error() string { return f.path + ": " + f.err.Error() }

func (f fault) Unwrap() error { return f.err }

// Cause answers the number that err wraps, and the paths of the faults on the way to it.
func Cause(err error) (number api.Errno, paths []string) {
	if err == nil {
		return api.OK, nil
	}
	// An error from elsewhere has methods of its own, which may panic.
	defer func() {
		if recover() != nil {
			number, paths = api.ErrArg, nil
		}
	}()
	if !errors.As(err, &number) {
		return api.ErrArg, nil
	}
	var f fault
	for rest := branch(err, number); errors.As(rest, &f); rest = f.err {
		paths = append(paths, f.path)
	}
	return number, paths
}

// branch answers of errors that are joined the first one that is the number, as the others aren't on the way to it; of any other error that.
func branch(err error, number api.Errno) error {
	var joined interface{ Unwrap() []error }
	for errors.As(err, &joined) {
		l := joined.Unwrap()
		i := slices.IndexFunc(l, func(e error) bool { return errors.Is(e, number) })
		if i < 0 {
			return nil
		}
		err = l[i]
	}
	return err
}
