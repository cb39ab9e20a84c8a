package catalog

import "majordomo/api"

// types is the types of resources by the numbers that stand for them in an encoding, less one.
var types = [5]string{api.TypeFile, api.TypeAccount, api.TypeGroup, api.TypePackage, api.TypeService}

// encode is the bytes of a catalog whose parts are sound: none of its counts and lengths is too great for its bytes.
func encode(c api.Catalog) []byte {
	b := putNumber(nil, c.Version)
	b = putText(b, c.Node)
	b = append(b, byte(len(c.R)))
	for _, r := range c.R {
		b = putResource(b, r)
	}
	b = append(b, byte(len(c.E)))
	for _, x := range c.E {
		b = append(b, byte(x.From), byte(x.To), flag(x.Notify))
	}
	return b
}

func putResource(b []byte, r api.Resource) []byte {
	b = append(b, typeNumber(r.Type))
	b = putText(b, r.Title)
	b = append(b, byte(len(r.P)))
	for _, p := range r.P {
		b = putText(b, p.Name)
		b = putText(b, p.Value)
	}
	return b
}

func typeNumber(kind string) byte {
	for i, x := range types {
		if x == kind {
			return byte(i + 1)
		}
	}
	return 0
}

func putNumber(b []byte, n int) []byte { return append(b, byte(n>>8), byte(n)) }

func putText(b []byte, s string) []byte { return append(putNumber(b, len(s)), s...) }

func flag(yes bool) byte {
	if yes {
		return 1
	}
	return 0
}
