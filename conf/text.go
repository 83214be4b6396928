package conf

import (
	"strconv"
	"strings"

	"sakia/api"
	"sakia/deci"
)

// field is a part of a configuration, with a word for its name and a word for its value.
type field struct {
	name  string
	write func() (string, bool)
	read  func(word string) bool
}

// fields returns the parts of a configuration in the order of its text.
func fields(c *api.Config) [12]field {
	return [12]field{
		list("sizes", &c.Sizes),
		// The Shift comes in front of the numbers that are read with it.
		count("shift", &c.Shift, api.MaxShift),
		value("rate", &c.Rate, &c.Shift),
		value("momentum", &c.Momentum, &c.Shift),
		count("workers", &c.Workers, api.MaxSize),
		count("batch", &c.Batch, api.MaxSize),
		count("micros", &c.Micros, api.MaxSize),
		count("steps", &c.Steps, api.MaxSize),
		count("bucket", &c.Bucket, api.MaxSize),
		count("chunk", &c.Chunk, api.MaxSize),
		count("window", &c.Window, api.MaxSize),
		count("capacity", &c.Capacity, api.MaxSize),
	}
}

// count returns the field of a number from 0 to most.
func count(name string, n *int, most int) field {
	return field{
		name: name,
		write: func() (string, bool) {
			return strconv.Itoa(*n), *n >= 0 && *n <= most
		},
		read: func(word string) (ok bool) {
			*n, ok = deci.Natural(word, most)
			return ok
		},
	}
}

// value returns the field of a fixed-point number.
func value(name string, x *int64, shift *int) field {
	return field{
		name: name,
		write: func() (string, bool) {
			return deci.Text(*x, *shift), true
		},
		read: func(word string) (ok bool) {
			*x, ok = deci.Parse(word, *shift)
			return ok
		},
	}
}

// list returns the field of at least one number from 0 to 2^20.
func list(name string, l *[]int) field {
	return field{
		name: name,
		write: func() (string, bool) {
			var words []string
			for _, n := range *l {
				words = append(words, strconv.Itoa(n))
			}
			return strings.Join(words, ","), len(*l) > 0 && within(0, *l...)
		},
		read: func(word string) bool {
			for _, s := range strings.Split(word, ",") {
				n, ok := deci.Natural(s, api.MaxSize)
				if !ok {
					return false
				}
				*l = append(*l, n)
			}
			return true
		},
	}
}

// Text returns the text of a configuration, and true; or "" and false, if it has none.
func Text(c api.Config) (string, bool) {
	var words []string
	for _, f := range fields(&c) {
		word, ok := f.write()
		if !ok {
			return "", false
		}
		words = append(words, f.name, word)
	}
	return strings.Join(words, " "), true
}

// Parse returns the configuration with a text, and true; or a zero Config and false, if there is none.
func Parse(s string) (api.Config, bool) {
	var c api.Config
	l := fields(&c)
	words := strings.Split(s, " ")
	if len(words) != 2*len(l) {
		return api.Config{}, false
	}
	for i, f := range l {
		if words[2*i] != f.name || !f.read(words[2*i+1]) {
			return api.Config{}, false
		}
	}
	return c, true
}
