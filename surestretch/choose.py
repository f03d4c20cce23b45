"""The ways to choose some things among others."""


def choices(n, k):
    if k < 0 or k > n:
        return 0
    ways = 1
    # Choosing what is taken or what is left comes to the same; the lesser one is the shorter walk.
    for taken in range(min(k, n - k)):
        # What stands so far times n - taken holds taken + 1 as a divisor, so nothing is lost here.
        ways = ways * (n - taken) // (taken + 1)
    return ways
