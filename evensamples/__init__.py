"""For which periods does a sampling profiler tell the truth?"""
