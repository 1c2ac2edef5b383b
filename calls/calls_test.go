// Package calls_test holds all layers to the calls that their chapters list.
package calls_test

import (
	"reflect"
	"testing"

	"sigil/api"
	"sigil/bls"
	"sigil/codec"
	"sigil/fp"
	"sigil/fp12"
	"sigil/fp2"
	"sigil/fp2root"
	"sigil/fp6"
	"sigil/fproot"
	"sigil/fr"
	"sigil/frob"
	"sigil/g1"
	"sigil/g2"
	"sigil/h2c"
	"sigil/hkdf"
	"sigil/limb"
	"sigil/miller"
	"sigil/pairing"
	"sigil/script"
	"sigil/sha"
	"sigil/sswu"
	"sigil/sub"
	"sigil/xmd"
)

// call is one of a layer's functions.
type call struct {
	name     string
	function any
}

// calls are all functions that the chapters list. Each is converted to the chapter's own signature, so that this file compiles only while they have it.
var calls = []call{
	{"sha.Pad", (func(b []byte) []byte)(sha.Pad)},
	{"sha.Begin", (func() [8]uint32)(sha.Begin)},
	{"sha.Step", (func(h [8]uint32, block [64]byte) [8]uint32)(sha.Step)},
	{"sha.Sum", (func(b []byte) api.Digest)(sha.Sum)},
	{"hkdf.Mac", (func(key, b []byte) api.Digest)(hkdf.Mac)},
	{"hkdf.Extract", (func(salt, b []byte) api.Digest)(hkdf.Extract)},
	{"hkdf.Expand", (func(key, info []byte, n int) ([]byte, api.Errno))(hkdf.Expand)},
	{"limb.Add", (func(a, b []uint64) ([]uint64, uint64))(limb.Add)},
	{"limb.Sub", (func(a, b []uint64) ([]uint64, uint64))(limb.Sub)},
	{"limb.Cmp", (func(a, b []uint64) int)(limb.Cmp)},
	{"limb.Mul", (func(a, b []uint64) []uint64)(limb.Mul)},
	{"limb.Mod", (func(a, m []uint64) ([]uint64, api.Errno))(limb.Mod)},
	{"limb.Octets", (func(a []uint64, n int) []byte)(limb.Octets)},
	{"limb.Words", (func(b []byte) []uint64)(limb.Words)},
	{"fp.P", (func() api.Fp)(fp.P)},
	{"fp.Reduce", (func(a api.Fp) api.Fp)(fp.Reduce)},
	{"fp.Wide", (func(w []uint64) api.Fp)(fp.Wide)},
	{"fp.Add", (func(a, b api.Fp) api.Fp)(fp.Add)},
	{"fp.Sub", (func(a, b api.Fp) api.Fp)(fp.Sub)},
	{"fp.Neg", (func(a api.Fp) api.Fp)(fp.Neg)},
	{"fp.Mul", (func(a, b api.Fp) api.Fp)(fp.Mul)},
	{"fp.Inv", (func(a api.Fp) api.Fp)(fp.Inv)},
	{"fp.Pow", (func(a api.Fp, e []uint64) api.Fp)(fp.Pow)},
	{"fp.Bytes", (func(a api.Fp) [48]byte)(fp.Bytes)},
	{"fp.FromBytes", (func(b []byte) (api.Fp, api.Errno))(fp.FromBytes)},
	{"fproot.Is", (func(a api.Fp) bool)(fproot.Is)},
	{"fproot.Sqrt", (func(a api.Fp) (api.Fp, bool))(fproot.Sqrt)},
	{"fproot.Sign", (func(a api.Fp) int)(fproot.Sign)},
	{"fproot.Bigger", (func(a api.Fp) bool)(fproot.Bigger)},
	{"fr.R", (func() api.Fr)(fr.R)},
	{"fr.Reduce", (func(a api.Fr) api.Fr)(fr.Reduce)},
	{"fr.Add", (func(a, b api.Fr) api.Fr)(fr.Add)},
	{"fr.Neg", (func(a api.Fr) api.Fr)(fr.Neg)},
	{"fr.Mul", (func(a, b api.Fr) api.Fr)(fr.Mul)},
	{"fr.Inv", (func(a api.Fr) api.Fr)(fr.Inv)},
	{"fr.FromOctets", (func(b []byte) api.Fr)(fr.FromOctets)},
	{"fr.Bytes", (func(a api.Fr) [32]byte)(fr.Bytes)},
	{"fr.FromBytes", (func(b []byte) (api.Fr, api.Errno))(fr.FromBytes)},
	{"fr.Windows", (func(a []uint64, width int) ([]int, api.Errno))(fr.Windows)},
	{"fp2.Reduce", (func(a api.Fp2) api.Fp2)(fp2.Reduce)},
	{"fp2.Add", (func(a, b api.Fp2) api.Fp2)(fp2.Add)},
	{"fp2.Sub", (func(a, b api.Fp2) api.Fp2)(fp2.Sub)},
	{"fp2.Neg", (func(a api.Fp2) api.Fp2)(fp2.Neg)},
	{"fp2.Mul", (func(a, b api.Fp2) api.Fp2)(fp2.Mul)},
	{"fp2.Inv", (func(a api.Fp2) api.Fp2)(fp2.Inv)},
	{"fp2.Conj", (func(a api.Fp2) api.Fp2)(fp2.Conj)},
	{"fp2.Xi", (func(a api.Fp2) api.Fp2)(fp2.Xi)},
	{"fp2.Scale", (func(a api.Fp2, k api.Fp) api.Fp2)(fp2.Scale)},
	{"fp2.Pow", (func(a api.Fp2, e []uint64) api.Fp2)(fp2.Pow)},
	{"fp2root.Is", (func(a api.Fp2) bool)(fp2root.Is)},
	{"fp2root.Sqrt", (func(a api.Fp2) (api.Fp2, bool))(fp2root.Sqrt)},
	{"fp2root.Sign", (func(a api.Fp2) int)(fp2root.Sign)},
	{"fp2root.Bigger", (func(a api.Fp2) bool)(fp2root.Bigger)},
	{"fp6.Reduce", (func(a api.Fp6) api.Fp6)(fp6.Reduce)},
	{"fp6.Add", (func(a, b api.Fp6) api.Fp6)(fp6.Add)},
	{"fp6.Sub", (func(a, b api.Fp6) api.Fp6)(fp6.Sub)},
	{"fp6.Neg", (func(a api.Fp6) api.Fp6)(fp6.Neg)},
	{"fp6.Mul", (func(a, b api.Fp6) api.Fp6)(fp6.Mul)},
	{"fp6.Inv", (func(a api.Fp6) api.Fp6)(fp6.Inv)},
	{"fp6.V", (func(a api.Fp6) api.Fp6)(fp6.V)},
	{"fp6.Scale", (func(a api.Fp6, k api.Fp2) api.Fp6)(fp6.Scale)},
	{"fp12.Reduce", (func(a api.Fp12) api.Fp12)(fp12.Reduce)},
	{"fp12.Add", (func(a, b api.Fp12) api.Fp12)(fp12.Add)},
	{"fp12.Sub", (func(a, b api.Fp12) api.Fp12)(fp12.Sub)},
	{"fp12.Neg", (func(a api.Fp12) api.Fp12)(fp12.Neg)},
	{"fp12.Mul", (func(a, b api.Fp12) api.Fp12)(fp12.Mul)},
	{"fp12.Inv", (func(a api.Fp12) api.Fp12)(fp12.Inv)},
	{"fp12.Conj", (func(a api.Fp12) api.Fp12)(fp12.Conj)},
	{"fp12.Pow", (func(a api.Fp12, e []uint64) api.Fp12)(fp12.Pow)},
	{"frob.Fp2", (func(a api.Fp2, n int) api.Fp2)(frob.Fp2)},
	{"frob.Fp6", (func(a api.Fp6, n int) api.Fp6)(frob.Fp6)},
	{"frob.Fp12", (func(a api.Fp12, n int) api.Fp12)(frob.Fp12)},
	{"g1.On", (func(p api.G1) bool)(g1.On)},
	{"g1.Reduce", (func(p api.G1) api.G1)(g1.Reduce)},
	{"g1.Neg", (func(p api.G1) api.G1)(g1.Neg)},
	{"g1.Add", (func(p, q api.G1) api.G1)(g1.Add)},
	{"g1.Mul", (func(k []uint64, p api.G1) (api.G1, api.Errno))(g1.Mul)},
	{"g1.Sum", (func(ks [][]uint64, ps []api.G1) (api.G1, api.Errno))(g1.Sum)},
	{"g1.Base", (func() api.G1)(g1.Base)},
	{"g2.On", (func(p api.G2) bool)(g2.On)},
	{"g2.Reduce", (func(p api.G2) api.G2)(g2.Reduce)},
	{"g2.Neg", (func(p api.G2) api.G2)(g2.Neg)},
	{"g2.Add", (func(p, q api.G2) api.G2)(g2.Add)},
	{"g2.Mul", (func(k []uint64, p api.G2) (api.G2, api.Errno))(g2.Mul)},
	{"g2.Sum", (func(ks [][]uint64, ps []api.G2) (api.G2, api.Errno))(g2.Sum)},
	{"g2.Base", (func() api.G2)(g2.Base)},
	{"sub.In1", (func(p api.G1) bool)(sub.In1)},
	{"sub.In2", (func(p api.G2) bool)(sub.In2)},
	{"sub.Phi", (func(p api.G1) api.G1)(sub.Phi)},
	{"sub.Psi", (func(p api.G2) api.G2)(sub.Psi)},
	{"sub.Clear1", (func(p api.G1) (api.G1, api.Errno))(sub.Clear1)},
	{"sub.Clear2", (func(p api.G2) (api.G2, api.Errno))(sub.Clear2)},
	{"miller.Line", (func(slope api.Fp2, q api.G2, p api.G1) api.Fp12)(miller.Line)},
	{"miller.Step", (func(t, q api.G2, p api.G1) (api.G2, api.Fp12))(miller.Step)},
	{"miller.Loop", (func(p api.G1, q api.G2) (api.Fp12, api.Errno))(miller.Loop)},
	{"pairing.Final", (func(f api.Fp12) api.Fp12)(pairing.Final)},
	{"pairing.Pair", (func(p api.G1, q api.G2) (api.Fp12, api.Errno))(pairing.Pair)},
	{"pairing.Product", (func(ps []api.G1, qs []api.G2) (api.Fp12, api.Errno))(pairing.Product)},
	{"xmd.Expand", (func(msg, dst []byte, n int) ([]byte, api.Errno))(xmd.Expand)},
	{"xmd.Fields", (func(msg, dst []byte, count int) ([]api.Fp2, api.Errno))(xmd.Fields)},
	{"sswu.On", (func(x, y api.Fp2) bool)(sswu.On)},
	{"sswu.Map", (func(u api.Fp2) (api.Fp2, api.Fp2))(sswu.Map)},
	{"sswu.Iso", (func(x, y api.Fp2) api.G2)(sswu.Iso)},
	{"h2c.Hash", (func(msg, dst []byte) (api.G2, api.Errno))(h2c.Hash)},
	{"h2c.Send", (func(u, v api.Fp2) api.G2)(h2c.Send)},
	{"codec.Encode1", (func(p api.G1, short bool) ([]byte, api.Errno))(codec.Encode1)},
	{"codec.Decode1", (func(b []byte, short bool) (api.G1, api.Errno))(codec.Decode1)},
	{"codec.Encode2", (func(p api.G2, short bool) ([]byte, api.Errno))(codec.Encode2)},
	{"codec.Decode2", (func(b []byte, short bool) (api.G2, api.Errno))(codec.Decode2)},
	{"bls.KeyGen", (func(b, info []byte) ([]byte, api.Errno))(bls.KeyGen)},
	{"bls.SkToPk", (func(sk []byte) ([]byte, api.Errno))(bls.SkToPk)},
	{"bls.KeyValidate", (func(pk []byte) bool)(bls.KeyValidate)},
	{"bls.Sign", (func(sk, msg []byte) ([]byte, api.Errno))(bls.Sign)},
	{"bls.Verify", (func(pk, msg, sig []byte) bool)(bls.Verify)},
	{"bls.Aggregate", (func(sigs [][]byte) ([]byte, api.Errno))(bls.Aggregate)},
	{"bls.AggregateVerify", (func(pks, msgs [][]byte, sig []byte) bool)(bls.AggregateVerify)},
	{"bls.FastAggregateVerify", (func(pks [][]byte, msg, sig []byte) bool)(bls.FastAggregateVerify)},
	{"bls.PopProve", (func(sk []byte) ([]byte, api.Errno))(bls.PopProve)},
	{"bls.PopVerify", (func(pk, proof []byte) bool)(bls.PopVerify)},
	{"script.Run", (func(ops []api.Op) ([]api.Answer, api.Errno))(script.Run)},
}

// R1: no call panics, here at nil lists and at numbers and points of noughts. The words of what is answered are each layer's own tests' matter.
func TestNoCallPanicsAtZeroValues(t *testing.T) {
	for _, c := range calls {
		t.Run(c.name, func(t *testing.T) {
			f := reflect.ValueOf(c.function)
			var zeros []reflect.Value
			for in := range f.Type().Ins() {
				zeros = append(zeros, reflect.Zero(in))
			}
			f.Call(zeros)
		})
	}
}
