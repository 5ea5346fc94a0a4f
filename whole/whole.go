// Package whole has tests alone: of the layers together, in machines of any programs, picked through in any order.
package whole
