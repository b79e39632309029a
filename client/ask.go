package client

import (
	"errors"

	"satchel/api"
	"satchel/fault"
	"satchel/info"
	"satchel/keys"
	"satchel/names"
	"satchel/walk"
)

var errNoVersions = errors.New("a list without versions")

// Versions asks which versions there are.
func (x *Client) Versions(name string, w api.World) ([]string, Result) {
	if err := names.CheckName(name); err != nil {
		return nil, Result{Err: err}
	}
	walker := walk.New(x.plan, w)
	versions, err := askList(walker, name)
	return versions, Result{Outcome: walker.Done(), Err: err}
}

// About asks about a version.
func (x *Client) About(name string, version string, w api.World) (api.About, Result) {
	if err := names.CheckName(name); err != nil {
		return api.About{}, Result{Err: err}
	}
	if err := names.CheckVersion(version); err != nil {
		return api.About{}, Result{Err: err}
	}
	walker := walk.New(x.plan, w)
	about, err := askAbout(walker, keys.InfoPath(name, version))
	return about, Result{Outcome: walker.Done(), Err: err}
}

// Latest asks for the latest version.
func (x *Client) Latest(name string, w api.World) (string, Result) {
	if err := names.CheckName(name); err != nil {
		return "", Result{Err: err}
	}
	walker := walk.New(x.plan, w)
	version, err := askLatest(walker, name)
	return version, Result{Outcome: walker.Done(), Err: err}
}

// askLatest looks through the list itself, if no mirror says which version is the latest.
func askLatest(walker *walk.Walker, name string) (string, error) {
	about, err := askAbout(walker, keys.LatestPath(name))
	if !errors.Is(err, walk.ErrNotFound) {
		return about.Version, err
	}
	versions, err := askList(walker, name)
	if err != nil {
		return "", err
	}
	if len(versions) == 0 {
		return "", fault.Of(walk.ErrNotFound, errNoVersions)
	}
	return names.Latest(versions), nil
}

func askList(walker *walk.Walker, name string) ([]string, error) {
	body, err := walker.Walk(walk.Goal{Path: keys.ListPath(name), Judge: takeAny})
	if err != nil {
		return nil, err
	}
	return names.List(body), nil
}

func askAbout(walker *walk.Walker, path string) (api.About, error) {
	body, err := walker.Walk(walk.Goal{Path: path, Judge: checkInfo})
	if err != nil {
		return api.About{}, err
	}
	return info.Read(body)
}

func takeAny(string) error { return nil }

func checkInfo(body string) error {
	_, err := info.Read(body)
	return err
}
