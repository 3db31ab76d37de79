package tpfb

import (
	"errors"

	"winnow/api"
	"winnow/check"
	"winnow/config"
)

// read is a text's program, if both the text and the configuration are taken.
func read(src string, c api.Config) (api.Prog, error) {
	prog, err := check.Text(src)
	if err = first(err, config.Check(c)); err != nil {
		return api.Prog{}, err
	}
	return prog, nil
}

// first is, of what layers below have said, the refusal that is told, just as it came: a text's goes ahead of a configuration's.
func first(said ...error) error {
	for _, kind := range []error{api.ErrReject, api.ErrConfig} {
		for _, err := range said {
			if refuses(err, kind) {
				return err
			}
		}
	}
	return nil
}

// refuses tells whether an error is a refusal of a kind.
func refuses(err, kind error) bool {
	var fault *api.Fault
	return errors.As(err, &fault) && errors.Is(fault, kind)
}
