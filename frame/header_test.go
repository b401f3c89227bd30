package frame

import (
	"testing"

	"stencil/api"
)

// P24.5: the header alone, of the longest frame and of the next one, for which no test has the room whole.
func TestHeader(t *testing.T) {
	for _, r := range []struct {
		kind, body int64
		want       string
		err        api.Errno
	}{
		{60240, 0, "\x00\x00\x00\x06\xeb\x50", api.OK},
		{23520, 0x01020304 - 6, "\x01\x02\x03\x04\x5b\xe0", api.OK},
		{60240, 1<<31 - 6, "\x80\x00\x00\x00\xeb\x50", api.OK},
		{60240, 4294967294 - 6, "\xff\xff\xff\xfe\xeb\x50", api.OK},
		{60240, 4294967295 - 6, "\xff\xff\xff\xff\xeb\x50", api.OK},
		{23520, 4294967295 - 6, "\xff\xff\xff\xff\x5b\xe0", api.OK},
		{23520, 4294967296 - 6, "", api.ErrFrameSize},
		{60240, 4294967296, "", api.ErrFrameSize},
		{60241, 4294967295 - 6, "", api.ErrFrameType},
		{60241, 4294967296 - 6, "", api.ErrFrameType},
	} {
		if s, err := header(r.kind, r.body); s != r.want || err != r.err {
			t.Errorf("P24.5: header(%d, %d) = %X, %v; want %X, %v", r.kind, r.body, s, err, r.want, r.err)
		}
	}
}
