package press_test

import (
	"fmt"
	"slices"
	"testing"

	"tympan/api"
	"tympan/press"
)

// wrongJobs is jobs with their error.
type wrongJobs struct {
	what string
	l    []api.PressJob
	e    api.Errno
}

func allWrongJobs() []wrongJobs {
	with := func(j api.PressJob) []api.PressJob { return append(two(), j) }
	return []wrongJobs{
		{"none", nil, api.ErrShape},
		{"21", newMaker(1).jobsNamed(21), api.ErrLarge},
		{"21 without names", make([]api.PressJob, 21), api.ErrLarge},
		{"no name", with(job("", 0, 1, 0)), api.ErrName},
		{"a name of 13 letters", with(job("abcdefghijklm", 0, 1, 0)), api.ErrName},
		{"a name that begins with a digit", with(job("1st", 0, 1, 0)), api.ErrName},
		{"a name with a blank", with(job("a ", 0, 1, 0)), api.ErrName},
		{"a name that is there", with(job("a", 0, 1, 0)), api.ErrExists},
		{"the name before", with(job("b", 0, 1, 0)), api.ErrExists},
		{"a first minute below 0", with(job("c", -1, 1, 0)), api.ErrRange},
		{"a late first minute", with(job("c", 10000001, 1, 0)), api.ErrRange},
		{"no minutes", with(job("c", 0, 0, 0)), api.ErrRange},
		{"minutes below 0", with(job("c", 0, -1, 0)), api.ErrRange},
		{"many minutes", with(job("c", 0, 10001, 0)), api.ErrRange},
		{"a due below 0", with(job("c", 0, 1, -1)), api.ErrRange},
		{"a late due", with(job("c", 0, 1, 10000001)), api.ErrRange},
		{"very great numbers", with(job("c", great, great, great)), api.ErrRange},
		{"a name, and a minute", with(job("", -1, 0, 0)), api.ErrName},
		{"a name that is there, and a minute", with(job("b", -1, 0, 0)), api.ErrExists},
		{"a minute, then a name", append(with(job("c", -1, 1, 0)), job("", 0, 1, 0)), api.ErrRange},
		{"a name, then a minute", append(with(job("", 0, 1, 0)), job("c", -1, 1, 0)), api.ErrName},
	}
}

// jobsNamed makes so many right jobs.
func (m maker) jobsNamed(count int) []api.PressJob {
	var l []api.PressJob
	for i := range count {
		l = append(l, job(m.name(i), m.from(0, 9), m.from(1, 9), m.from(0, 90)))
	}
	return l
}

// P9.5: right jobs and wrong ones.
func TestCheckJobs(t *testing.T) {
	for _, l := range [][]api.PressJob{two(), newMaker(1).jobsNamed(20), {job("A", 10000000, 10000, 10000000), job("a", 0, 1, 0)}} {
		want(t, "CheckJobs", 0, press.CheckJobs(l), 0, api.OK)
	}
	for _, w := range allWrongJobs() {
		want(t, "CheckJobs, "+w.what, 0, press.CheckJobs(w.l), 0, w.e)
		schedule, n, set, e := press.Schedule(w.l)
		want(t, "Schedule, "+w.what, schedule, e, nil, w.e)
		want(t, "Schedule, "+w.what, set, e, nil, w.e)
		want(t, "Schedule, "+w.what, n, e, 0, w.e)
		n, first, e := press.CheckSchedule(w.l, make([]api.PressSlice, 101))
		want(t, "CheckSchedule, "+w.what, []int{n, first}, e, []int{0, 0}, w.e)
		n, e = press.CheckBound(w.l, nil)
		want(t, "CheckBound, "+w.what, n, e, 0, w.e)
	}
}

// P9.5: schedules of the chapter's example, and some others.
func TestSchedule(t *testing.T) {
	for _, x := range []struct {
		what     string
		l        []api.PressJob
		schedule []api.PressSlice
		lateness int
	}{
		{"example 5", two(), interrupted(), -1},
		{"one", []api.PressJob{job("a", 7, 3, 20)}, []api.PressSlice{slice(0, 7, 3)}, -10},
		{"equal dues", []api.PressJob{job("a", 0, 2, 9), job("b", 0, 2, 9), job("c", 0, 2, 8)}, []api.PressSlice{slice(2, 0, 2), slice(0, 2, 2), slice(1, 4, 2)}, -3},
		{"an equal due interrupts", []api.PressJob{job("a", 1, 2, 9), job("b", 0, 2, 9)}, []api.PressSlice{slice(1, 0, 1), slice(0, 1, 2), slice(1, 3, 1)}, -5},
		{"an equal due does not interrupt", []api.PressJob{job("a", 0, 2, 9), job("b", 1, 2, 9)}, []api.PressSlice{slice(0, 0, 2), slice(1, 2, 2)}, -5},
		{"a later due does not interrupt", []api.PressJob{job("a", 0, 5, 9), job("b", 1, 1, 10), job("c", 2, 1, 11)}, []api.PressSlice{slice(0, 0, 5), slice(1, 5, 1), slice(2, 6, 1)}, -4},
		{"a pause", []api.PressJob{job("a", 10, 2, 3), job("b", 1, 2, 0)}, []api.PressSlice{slice(1, 1, 2), slice(0, 10, 2)}, 9},
		{"ready when the other one has ended", []api.PressJob{job("a", 2, 2, 3), job("b", 0, 2, 9)}, []api.PressSlice{slice(1, 0, 2), slice(0, 2, 2)}, 1},
		{"interrupted twice", []api.PressJob{job("a", 0, 4, 90), job("b", 1, 1, 5), job("c", 3, 1, 4)}, []api.PressSlice{slice(0, 0, 1), slice(1, 1, 1), slice(0, 2, 1), slice(2, 3, 1), slice(0, 4, 2)}, 0},
		{"interrupted one in the other", []api.PressJob{job("a", 0, 3, 30), job("b", 1, 3, 20), job("c", 2, 3, 10)}, []api.PressSlice{slice(0, 0, 1), slice(1, 1, 1), slice(2, 2, 3), slice(1, 5, 2), slice(0, 7, 2)}, -5},
		{"as late as can be", []api.PressJob{job("a", 10000000, 10000, 0)}, []api.PressSlice{slice(0, 10000000, 10000)}, 10010000},
		{"as early as can be", []api.PressJob{job("a", 0, 1, 10000000)}, []api.PressSlice{slice(0, 0, 1)}, 1 - 10000000},
	} {
		checkSchedule(t, x.what, x.l, x.schedule, x.lateness)
	}
}

// checkSchedule fails the test if the schedule by dues is another one, or is not proved.
func checkSchedule(t *testing.T, what string, l []api.PressJob, schedule []api.PressSlice, lateness int) {
	t.Helper()
	got, n, set, e := press.Schedule(l)
	want(t, "Schedule, "+what, got, e, schedule, api.OK)
	want(t, "Schedule, "+what+", lateness", n, e, lateness, api.OK)
	bound, e := press.CheckBound(l, set)
	want(t, fmt.Sprint("Schedule, ", what, ", the bound of ", set), bound, e, lateness, api.OK)
	n, _, e = press.CheckSchedule(l, got)
	want(t, "CheckSchedule, "+what, n, e, lateness, api.OK)
}

// byDues is the schedule by dues, minute by minute.
func byDues(l []api.PressJob) []api.PressSlice {
	done := make([]int, len(l))
	var schedule []api.PressSlice
	for minute := range 400 {
		now := -1
		for i, j := range l {
			if j.Ready <= minute && done[i] < j.Minutes && (now < 0 || j.Due < l[now].Due) {
				now = i
			}
		}
		if now < 0 {
			continue
		}
		done[now]++
		if k := len(schedule) - 1; k >= 0 && schedule[k].Job == now && schedule[k].From+schedule[k].Minutes == minute {
			schedule[k].Minutes++
		} else {
			schedule = append(schedule, slice(now, minute, 1))
		}
	}
	return schedule
}

// latenessOf is the lateness of a schedule, and the first job that has it, by the definition.
func latenessOf(l []api.PressJob, schedule []api.PressSlice) (int, int) {
	lateness, first := small, 0
	for i, j := range l {
		end := 0
		for _, s := range schedule {
			if s.Job == i {
				end = s.From + s.Minutes
			}
		}
		if end-j.Due > lateness {
			lateness, first = end-j.Due, i
		}
	}
	return lateness, first
}

// P9.5, P9.9: schedules of made jobs by the definition, with sets that prove them.
func TestMadeSchedules(t *testing.T) {
	m := newMaker(9)
	for range 3000 {
		l := m.jobs(20, m.from(0, 60), m.from(1, 12), m.from(0, 90))
		schedule := byDues(l)
		lateness, first := latenessOf(l, schedule)
		checkSchedule(t, fmt.Sprint(l), l, schedule, lateness)
		_, n, e := press.CheckSchedule(l, schedule)
		want(t, fmt.Sprint("CheckSchedule of ", l, ", the job"), n, e, first, api.OK)
	}
}

// leastLateness is the least lateness of all schedules that do some job whenever one is ready, minute
// by minute. (Pauses make no schedule less late.)
func leastLateness(l []api.PressJob, minute int, done []int) int {
	least, isReady, isOver := great, false, true
	for i, j := range l {
		if done[i] == j.Minutes {
			continue
		}
		isOver = false
		if j.Ready > minute {
			continue
		}
		isReady = true
		next := slices.Clone(done)
		next[i]++
		late := leastLateness(l, minute+1, next)
		if next[i] == j.Minutes {
			late = max(late, minute+1-j.Due)
		}
		least = min(least, late)
	}
	if isOver {
		return small
	}
	if !isReady {
		return leastLateness(l, minute+1, done)
	}
	return least
}

// P9.9: no schedule at all has less lateness than the one by dues.
func TestLeastLateness(t *testing.T) {
	m := newMaker(10)
	for range 400 {
		l := m.jobs(4, 6, 2, 9)
		_, n, _, e := press.Schedule(l)
		want(t, fmt.Sprint("Schedule of ", l), n, e, leastLateness(l, 0, make([]int, len(l))), api.OK)
	}
}

// P9.5: schedules of the chapter's jobs that are checked.
func TestCheckSchedule(t *testing.T) {
	const far = 20000000
	type schedule = []api.PressSlice
	units := func(count int) schedule {
		l := schedule{slice(1, 4, 3)}
		for i := range count - 1 {
			l = append(l, slice(0, 7+i, 1))
		}
		return l
	}
	for _, x := range []struct {
		what      string
		slices    schedule
		late, job int
		e         api.Errno
	}{
		{"example 5", interrupted(), -1, 1, api.OK},
		{"one after the other", schedule{slice(0, 0, 10), slice(1, 10, 3)}, 5, 1, api.OK},
		{"the other one first", schedule{slice(1, 4, 3), slice(0, 7, 10)}, -1, 1, api.OK},
		{"equally late", schedule{slice(1, 4, 3), slice(0, 9, 10)}, -1, 0, api.OK},
		{"pauses", schedule{slice(1, 50, 3), slice(0, 60, 10)}, 50, 0, api.OK},
		{"two slices without a pause", schedule{slice(0, 0, 1), slice(0, 1, 3), slice(1, 4, 3), slice(0, 7, 6)}, -1, 1, api.OK},
		{"the last minute", schedule{slice(1, 4, 3), slice(0, far, 10)}, far + 10 - 20, 0, api.OK},
		{"many slices", units(11), -1, 1, api.OK},
		{"100 slices", units(100), 0, 0, api.ErrSum},
		{"101 slices", units(101), 0, 0, api.ErrLarge},
		{"101 wrong slices", slices.Repeat(schedule{slice(-1, -1, 0)}, 101), 0, 0, api.ErrLarge},
		{"none", nil, 0, 0, api.ErrSum},
		{"no such job", schedule{slice(2, 0, 10)}, 0, 0, api.ErrMissing},
		{"a job below 0", schedule{slice(-1, 0, 10)}, 0, 0, api.ErrMissing},
		{"no such job, and no minutes", schedule{slice(great, small, small)}, 0, 0, api.ErrMissing},
		{"no minutes", schedule{slice(0, 0, 0), slice(0, 0, 10), slice(1, 10, 3)}, 0, 0, api.ErrRange},
		{"minutes below 0", schedule{slice(0, 0, 11), slice(0, 11, -1), slice(1, 11, 3)}, 0, 0, api.ErrRange},
		{"many minutes", schedule{slice(0, 0, 10001)}, 0, 0, api.ErrRange},
		{"a minute below 0", schedule{slice(0, -1, 10)}, 0, 0, api.ErrRange},
		{"a late minute", schedule{slice(0, far+1, 10)}, 0, 0, api.ErrRange},
		{"very great numbers", schedule{slice(0, great, great)}, 0, 0, api.ErrRange},
		{"not ready", schedule{slice(0, 0, 3), slice(1, 3, 3), slice(0, 6, 7)}, 0, 0, api.ErrEarly},
		{"not ready, and busy", schedule{slice(0, 0, 10), slice(1, 3, 3)}, 0, 0, api.ErrEarly},
		{"not ready, and no minutes", schedule{slice(1, 3, 0)}, 0, 0, api.ErrRange},
		{"busy", schedule{slice(0, 0, 5), slice(1, 4, 3), slice(0, 7, 5)}, 0, 0, api.ErrBusy},
		{"busy to the last minute", schedule{slice(0, 0, 10), slice(1, 9, 3)}, 0, 0, api.ErrBusy},
		{"the wrong way round", schedule{slice(0, 7, 10), slice(1, 4, 3)}, 0, 0, api.ErrBusy},
		{"busy, and too few minutes", schedule{slice(0, 0, 5), slice(0, 4, 1)}, 0, 0, api.ErrBusy},
		{"busy, then no such job", schedule{slice(0, 0, 5), slice(0, 4, 5), slice(2, 9, 1)}, 0, 0, api.ErrBusy},
		{"no such job, then busy", schedule{slice(0, 0, 5), slice(2, 5, 1), slice(0, 4, 5)}, 0, 0, api.ErrMissing},
		{"a minute too few", schedule{slice(0, 0, 10), slice(1, 10, 2)}, 0, 0, api.ErrSum},
		{"a minute too many", schedule{slice(0, 0, 11), slice(1, 11, 3)}, 0, 0, api.ErrSum},
		{"a minute of another job", schedule{slice(0, 0, 9), slice(1, 9, 4)}, 0, 0, api.ErrSum},
		{"only one", schedule{slice(1, 4, 3)}, 0, 0, api.ErrSum},
	} {
		late, job, e := press.CheckSchedule(two(), x.slices)
		want(t, "CheckSchedule, "+x.what, []int{late, job}, e, []int{x.late, x.job}, x.e)
	}
}

// schedule makes a schedule of jobs that is mostly right: slices in any order, with pauses.
func (m maker) schedule(l []api.PressJob) []api.PressSlice {
	left := make([]int, len(l))
	for i, j := range l {
		left[i] = j.Minutes
	}
	var schedule []api.PressSlice
	minute := 0
	for slices.Max(left) > 0 {
		i := m.Intn(len(l))
		if left[i] == 0 {
			continue
		}
		minutes := m.from(1, left[i])
		minute = max(minute, l[i].Ready) + max(m.from(-3, 2), 0)
		schedule = append(schedule, slice(i, minute, minutes))
		left[i] -= minutes
		minute += minutes
	}
	return schedule
}

// errorOf tells what is wrong with a schedule, by the definition.
func errorOf(l []api.PressJob, schedule []api.PressSlice) api.Errno {
	sums := map[int]int{}
	for k, s := range schedule {
		switch {
		case s.Job < 0 || s.Job >= len(l):
			return api.ErrMissing
		case s.Minutes < 1 || s.From < 0:
			return api.ErrRange
		case s.From < l[s.Job].Ready:
			return api.ErrEarly
		case k > 0 && s.From < schedule[k-1].From+schedule[k-1].Minutes:
			return api.ErrBusy
		}
		sums[s.Job] += s.Minutes
	}
	for i, j := range l {
		if sums[i] != j.Minutes {
			return api.ErrSum
		}
	}
	return api.OK
}

// boundOf is the bound of a set of jobs that there are, by the definition.
func boundOf(l []api.PressJob, set []int) int {
	least, sum, greatest := great, 0, 0
	for _, i := range set {
		least, greatest = min(least, l[i].Ready), max(greatest, l[i].Due)
		sum += l[i].Minutes
	}
	return least + sum - greatest
}

// P9.5, P9.9: schedules of made jobs that are checked; none of them has less lateness than a bound.
func TestMadeSchedulesChecked(t *testing.T) {
	m := newMaker(11)
	errors := map[api.Errno]int{}
	for range 3000 {
		l := m.jobs(5, 20, 9, 40)
		schedule := m.schedule(l)
		if m.Intn(2) == 0 {
			s := &schedule[m.Intn(len(schedule))]
			s.Job += max(m.from(-4, 1), 0)
			s.From += m.from(-2, 1)
			s.Minutes += m.from(-1, 1)
		}
		late, job, e := press.CheckSchedule(l, schedule)
		wantLate, wantJob := 0, 0
		wantError := errorOf(l, schedule)
		errors[wantError]++
		if wantError == api.OK {
			wantLate, wantJob = latenessOf(l, schedule)
		}
		want(t, fmt.Sprint("CheckSchedule of ", l, schedule), []int{late, job}, e, []int{wantLate, wantJob}, wantError)
		if e != api.OK {
			continue
		}
		for sets := 1; sets < 1<<len(l); sets++ {
			var set []int
			for i := range l {
				if sets>>i&1 == 1 {
					set = append(set, i)
				}
			}
			bound, e := press.CheckBound(l, set)
			want(t, fmt.Sprint("CheckBound of ", l, set), bound, e, boundOf(l, set), api.OK)
			if bound > late {
				t.Errorf("%v: the lateness %d of %v is less than the bound %d of %v", l, late, schedule, bound, set)
			}
		}
	}
	if len(errors) != 6 {
		t.Errorf("errors: %v", errors)
	}
}

// P9.5: bounds of sets of the chapter's jobs.
func TestCheckBound(t *testing.T) {
	three := append(two(), job("c", 100, 10000, 10000000))
	for _, x := range []struct {
		l      []api.PressJob
		set    []int
		wanted int
		e      api.Errno
	}{
		{two(), []int{1}, -1, api.OK},
		{two(), []int{0}, -10, api.OK},
		{two(), []int{0, 1}, -7, api.OK},
		{three, []int{0, 1, 2}, 10013 - 10000000, api.OK},
		{three, []int{1, 2}, 10007 - 10000000, api.OK},
		{three, []int{2}, 10100 - 10000000, api.OK},
		{[]api.PressJob{job("a", 10000000, 10000, 0)}, []int{0}, 10010000, api.OK},
		{two(), nil, 0, api.ErrShape},
		{two(), []int{2}, 0, api.ErrMissing},
		{two(), []int{-1}, 0, api.ErrMissing},
		{two(), []int{0, 1, 2}, 0, api.ErrMissing},
		{two(), []int{0, small}, 0, api.ErrMissing},
		{two(), []int{0, 0}, 0, api.ErrOrder},
		{two(), []int{1, 0}, 0, api.ErrOrder},
		{two(), []int{1, 0, 2}, 0, api.ErrOrder},
		{two(), []int{1, 2, 0}, 0, api.ErrMissing},
		{two(), []int{0, 1, 1}, 0, api.ErrOrder},
	} {
		n, e := press.CheckBound(x.l, x.set)
		want(t, fmt.Sprint("CheckBound of ", x.set), n, e, x.wanted, x.e)
	}
}
