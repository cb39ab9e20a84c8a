package resource

import "majordomo/api"

// ensure is the parameter that tells a resource's state, and so which others there are.
const ensure = "ensure"

// kind is a type of resources: the titles that it takes, its default state, and the parameters that there are in a state (none if it is no state of this type).
type kind struct {
	title func(string) bool
	state string
	slots func(state string) []slot
}

// slot is a parameter that there may be: its default value, and the values that it takes. Slots stand by rising names.
type slot struct {
	name, value string
	takes       func(string) bool
}

func kinds() map[string]kind {
	return map[string]kind{
		api.TypeFile: {fileTitle, "file", fileSlots},
		api.TypeAccount: {key, "present", record(
			slot{"group", "users", key},
			slot{"shell", "/bin/sh", word},
			slot{"uid", "1000", id},
		)},
		api.TypeGroup:   {key, "present", record(slot{"gid", "1000", id})},
		api.TypePackage: {key, "present", record(slot{"version", "latest", fullWord})},
		api.TypeService: {key, "running", serviceSlots},
	}
}

func fileSlots(state string) []slot {
	switch state {
	case "file":
		return []slot{{"content", "", text}, told(state), {"mode", "0644", mode}}
	case "directory":
		return []slot{told(state), {"mode", "0755", mode}, {"purge", "false", oneOf("false", "true")}}
	case "link":
		// A target has no default: the empty text that stands for one is no path, so it is not taken.
		return []slot{told(state), {"target", "", path}}
	case "absent":
		return []slot{told(state)}
	}
	return nil
}

// record is the slots of what is present, with these others (all their names are behind ensure), or absent, without them.
func record(others ...slot) func(state string) []slot {
	return func(state string) []slot {
		switch state {
		case "present":
			return append([]slot{told(state)}, others...)
		case "absent":
			return []slot{told(state)}
		}
		return nil
	}
}

func serviceSlots(state string) []slot {
	switch state {
	case "running", "stopped":
		return []slot{told(state)}
	}
	return nil
}

// told is the slot of ensure in a state.
func told(state string) slot { return slot{ensure, state, oneOf(state)} }
