package press

import (
	"math"
	"slices"

	"tympan/api"
)

// CheckJobs: see the chapter.
func CheckJobs(l []api.PressJob) api.Errno {
	if len(l) == 0 {
		return api.ErrShape
	}
	if len(l) > api.MaxPressJobs {
		return api.ErrLarge
	}
	jobs := names{}
	for _, job := range l {
		if e := jobs.add(job.Name); e != api.OK {
			return e
		}
		if !isMinute(job.Ready) || !isMinute(job.Due) || !isJobMinutes(job.Minutes) {
			return api.ErrRange
		}
	}
	return api.OK
}

func isMinute(n int) bool {
	return isFrom(0, api.MaxMinute, n)
}

// isJobMinutes tells whether a job, or a slice of one, may have so many minutes.
func isJobMinutes(n int) bool {
	return isFrom(1, api.MaxRunMinutes, n)
}

// Schedule: see the chapter.
func Schedule(l []api.PressJob) ([]api.PressSlice, int, []int, api.Errno) {
	if e := CheckJobs(l); e != api.OK {
		return nil, 0, nil, e
	}
	schedule := scheduleByDues(l)
	lateness, job := latenessOf(l, schedule)
	return schedule, lateness, causesOf(l, schedule, lateness, l[job].Due), api.OK
}

func scheduleByDues(jobs []api.PressJob) []api.PressSlice {
	left := make([]int, len(jobs))
	for i, job := range jobs {
		left[i] = job.Minutes
	}
	var schedule []api.PressSlice
	for minute := 0; sumOf(left) > 0; {
		next := nextReady(jobs, minute)
		job, isReady := mostUrgent(jobs, left, minute)
		if !isReady {
			minute = next
			continue
		}
		minutes := min(left[job], next-minute)
		schedule = withSlice(schedule, api.PressSlice{Job: job, From: minute, Minutes: minutes})
		left[job] -= minutes
		minute += minutes
	}
	return schedule
}

// nextReady returns the least minute behind one from which on a job may be printed, or a number greater
// than all minutes.
func nextReady(jobs []api.PressJob, minute int) int {
	next := math.MaxInt
	for _, job := range jobs {
		if job.Ready > minute {
			next = min(next, job.Ready)
		}
	}
	return next
}

// mostUrgent returns the job that the press does at a minute, if one is ready and not done.
func mostUrgent(jobs []api.PressJob, left []int, minute int) (int, bool) {
	urgent, isReady := 0, false
	for i, job := range jobs {
		if left[i] > 0 && job.Ready <= minute && (!isReady || job.Due < jobs[urgent].Due) {
			urgent, isReady = i, true
		}
	}
	return urgent, isReady
}

// withSlice returns a schedule with one more slice, which may be the rest of its last one.
func withSlice(schedule []api.PressSlice, s api.PressSlice) []api.PressSlice {
	if len(schedule) > 0 {
		last := &schedule[len(schedule)-1]
		if last.Job == s.Job && endOf(*last) == s.From {
			last.Minutes += s.Minutes
			return schedule
		}
	}
	return append(schedule, s)
}

func endOf(s api.PressSlice) int {
	return s.From + s.Minutes
}

// latenessOf returns the lateness of a right schedule, and the first job that has it.
func latenessOf(jobs []api.PressJob, schedule []api.PressSlice) (int, int) {
	late := make([]int, len(jobs))
	for _, s := range schedule {
		late[s.Job] = endOf(s) - jobs[s.Job].Due
	}
	lateness := slices.Max(late)
	return lateness, slices.Index(late, lateness)
}

// causesOf returns a set of jobs whose bound is the lateness of the schedule by dues, which a job with
// this due has: the jobs that are done until it has ended, as far back as there is no pause, and nothing
// that is due later. None of them was ready before, or it would have been done then; and none goes on
// later, or it would be later still.
func causesOf(jobs []api.PressJob, schedule []api.PressSlice, lateness, due int) []int {
	var set []int
	from := due + lateness
	for _, s := range slices.Backward(schedule) {
		if endOf(s) == from && jobs[s.Job].Due <= due {
			set = append(set, s.Job)
			from = s.From
		}
	}
	slices.Sort(set)
	return slices.Compact(set)
}

// CheckSchedule: see the chapter.
func CheckSchedule(l []api.PressJob, slices []api.PressSlice) (int, int, api.Errno) {
	if e := CheckJobs(l); e != api.OK {
		return 0, 0, e
	}
	if len(slices) > api.MaxSlices {
		return 0, 0, api.ErrLarge
	}
	done := make([]int, len(l))
	minute := 0
	for _, s := range slices {
		if e := errorOfSlice(l, s, minute); e != api.OK {
			return 0, 0, e
		}
		done[s.Job] += s.Minutes
		minute = endOf(s)
	}
	for i, job := range l {
		if done[i] != job.Minutes {
			return 0, 0, api.ErrSum
		}
	}
	lateness, job := latenessOf(l, slices)
	return lateness, job, api.OK
}

// errorOfSlice tells what is wrong with a slice, the one ahead of which has ended at a minute.
func errorOfSlice(jobs []api.PressJob, s api.PressSlice, ended int) api.Errno {
	switch {
	case !isFrom(0, len(jobs)-1, s.Job):
		return api.ErrMissing
	case !isJobMinutes(s.Minutes), !isFrom(0, 2*api.MaxMinute, s.From):
		return api.ErrRange
	case s.From < jobs[s.Job].Ready:
		return api.ErrEarly
	case s.From < ended:
		return api.ErrBusy
	}
	return api.OK
}

// CheckBound: see the chapter.
func CheckBound(l []api.PressJob, set []int) (int, api.Errno) {
	if e := CheckJobs(l); e != api.OK {
		return 0, e
	}
	if len(set) == 0 {
		return 0, api.ErrShape
	}
	before := -1
	for _, job := range set {
		if !isFrom(0, len(l)-1, job) {
			return 0, api.ErrMissing
		}
		if job <= before {
			return 0, api.ErrOrder
		}
		before = job
	}
	return boundOf(l, set), api.OK
}

func boundOf(jobs []api.PressJob, set []int) int {
	ready, minutes, due := math.MaxInt, 0, 0
	for _, i := range set {
		ready = min(ready, jobs[i].Ready)
		minutes += jobs[i].Minutes
		due = max(due, jobs[i].Due)
	}
	return ready + minutes - due
}
