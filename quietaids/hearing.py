"""The aid: its leak, its bands, the ring's row and what's heard in all."""

from quietaids.ratios import lowest
from quietaids.refusals import NoBand, NoRing
from quietaids.rows import added, product, scaled


class Band:
    def __init__(self, n, d, up, low):
        self.gain = lowest(n, d)
        self.up = up
        self.low = low


class Aid:
    def __init__(self):
        self.leak_up = [0]
        self.leak_low = [1]
        self.bands = [None, None, None]

    def put_leak(self, up, low):
        self.leak_up = up
        self.leak_low = low

    def put_band(self, i, band):
        self.bands[i] = band

    def take_band_out(self, i):
        self.bands[i] = None

    def band_at(self, i):
        band = self.bands[i]
        if band is None:
            raise NoBand()
        return band

    # The upper and the lower row of what the bands make together.
    def together(self):
        upper = [0]
        lower = [1]
        for band in self.bands:
            if band is not None:
                top = scaled(band.up, band.gain[0])
                bottom = scaled(band.low, band.gain[1])
                upper = added(product(upper, bottom), product(top, lower))
                lower = product(lower, bottom)
        return (upper, lower)

    # The upper row of what's heard in all, and the ring's row, which is its lower one.
    def heard_in_all(self):
        bands = self.together()
        round_again = product(self.leak_up, bands[0])
        ring = added(product(self.leak_low, bands[1]), scaled(round_again, -1))
        if ring[0] == 0:
            raise NoRing()
        return (product(self.leak_low, bands[0]), ring)

    def ring_row(self):
        heard = self.heard_in_all()
        return heard[1]
