"""The aid: its leak, its bands, the ring's row and what's heard in all."""

from quietaids.quietness import is_quiet
from quietaids.ratios import lowest
from quietaids.refusals import NoBand, NoRing
from quietaids.rows import added, product, scaled


class Band:
    def __init__(self, n, d, up, low):
        self.gain = lowest(n, d)
        self.up = up
        self.low = low


class Aid:
    def __init__(self):
        self.leak_up = [0]
        self.leak_low = [1]
        self.bands = [None, None, None]

    def put_leak(self, up, low):
        self.leak_up = up
        self.leak_low = low

    def put_band(self, i, band):
        self.bands[i] = band

    def take_band_out(self, i):
        self.bands[i] = None

    def band_at(self, i):
        band = self.bands[i]
        if band is None:
            raise NoBand()
        return band

    # The upper and the lower row of what the bands make together at volume n / d.
    def together(self, n, d):
        upper = [0]
        lower = [1]
        for band in self.bands:
            if band is not None:
                gain = lowest(band.gain[0] * n, band.gain[1] * d)
                top = scaled(band.up, gain[0])
                bottom = scaled(band.low, gain[1])
                upper = added(product(upper, bottom), product(top, lower))
                lower = product(lower, bottom)
        return (upper, lower)

    # The upper row of what's heard in all at volume n / d, and the ring's row there, which is its lower one.
    def rows_at(self, n, d):
        bands = self.together(n, d)
        round_again = product(self.leak_up, bands[0])
        ring = added(product(self.leak_low, bands[1]), scaled(round_again, -1))
        return (product(self.leak_low, bands[0]), ring)

    def heard_in_all(self):
        heard = self.rows_at(1, 1)
        if heard[1][0] == 0:
            raise NoRing()
        return heard

    def ring_row(self):
        heard = self.heard_in_all()
        return heard[1]

    def is_quiet_at(self, n, d):
        heard = self.rows_at(n, d)
        return heard[1][0] != 0 and is_quiet(heard[1])
