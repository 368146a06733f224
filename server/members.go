package server

import "veil/api"

// places is how many there are for what belongs to a client, which lies at the
// place of its number; no client has the number 0.
const places = api.MaxClients + 1

// members is a set of clients.
type members [places]bool

// numbers has a number of each client.
type numbers [places]int

// itemLists has the items of a frame of each client.
type itemLists [places][]api.Item

// firstMembers gives the clients from 1 to n.
func firstMembers(n int) members {
	var set members
	for u := range set {
		set[u] = u >= 1 && u <= n
	}
	return set
}

// sizeOf tells how many there are.
func sizeOf(set members) int {
	size := 0
	for _, isMember := range set {
		if isMember {
			size = size + 1
		}
	}
	return size
}

// listed gives the members, rising.
func listed(set members) []int {
	var list []int
	for u, isMember := range set {
		if isMember {
			list = append(list, u)
		}
	}
	return list
}

// itemOf gives the item with this Id; if there is none, the one of noughts.
func itemOf(items []api.Item, id int) api.Item {
	for _, item := range items {
		if item.Id == id {
			return item
		}
	}
	return api.Item{}
}
