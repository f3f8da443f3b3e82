package region_test

import (
	"reflect"
	"testing"

	"croft/region"
)

// Ways: what a pool stands on is embedded in it, and nothing stands beside; the calls that tell it are promoted: the embedded part has them too.
func TestWays(t *testing.T) {
	pool := reflect.TypeFor[region.Pool]()
	for i := range pool.NumField() {
		if !pool.Field(i).Anonymous {
			t.Errorf("the field %s is not embedded", pool.Field(i).Name)
		}
	}
	for _, call := range []string{"Space", "Map", "Buddy"} {
		if !promoted(pool, call) {
			t.Errorf("%s is not promoted", call)
		}
	}
}

func promoted(whole reflect.Type, call string) bool {
	for i := range whole.NumField() {
		part := whole.Field(i)
		if part.Type.Kind() != reflect.Pointer {
			part.Type = reflect.PointerTo(part.Type)
		}
		if _, has := part.Type.MethodByName(call); part.Anonymous && has {
			return true
		}
	}
	return false
}
