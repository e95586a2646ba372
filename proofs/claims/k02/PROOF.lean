import PyProof.Rows.All
import Wide.All
import OpenK.AllK
import Wide.FinOn
import HandS.ForMost
import HandS.Evl
import HandS.Walk
import HandS.IsInst
import HandS.Dict
import HandS.Defaults
import HandS.ForExc
import KE.GoesEnum
import HandS.Property
import HandS.ExcInit
import HandS.ExcField
import HandS.ExcIs
import HandS.ExcOwn
import PyProof.ReprRoads
import PyProof.ReprLen
import HandS.Ends
import HandS.HeadEnd
import HandS.HeadHook2
import HandS.Head2
import HandS.DictComp
import HandS.Style
import HandS.TryMany
import HandS.Conv
import HandS.TupAny
import PyProof.Rows.SortShell
import HandS.TupSets
import HandS.SetBool
import HandS.Strs
import PyProof.FactsAll.set_2
import PyProof.Rows.SetFrom
import HandS.Deep
import HandS.Lambda
import KE.SortKeyHeap
import HandS.SortKw
import HandS.HeadHook3
import HandS.HeadWalk
import KE.KNestM
import KE.SortData
import KE.DataMinMax
import HandS.Star
import HandS.Exc
import KE.GoesRaise
import KE.KAsSuite
import HandS.ReCall
import PyProof.FactsAll.tuple_2
import HandS.More
import HandS.GenCall
import HandS.GenList
import HandS.GenYield
import HandS.CallSlots
import KE.KStateDown
import HandS.Head0
import HandS.Head1
import PySem.Challenge.RW_leastgates_k02_what_two_lots_save
set_option Elab.async false
set_option linter.all false
set_option maxRecDepth 100000
set_option maxHeartbeats 0
namespace DL
open PySem L2 Evl

mutual
inductive Rp (K : PySem.W.Frag) (H : Hp) : V → PyData → Prop
  | non : Rp K H .non .none
  | bl (b : Bool) : Rp K H (.bl b) (.bool b)
  | int (i : Int) : Rp K H (.int i) (.int i)
  | str (x : Str) : Rp K H (.str x) (.str x)
  | lst {a : Addr} {xs : List V} {ds : List PyData} : H a = some (.lst xs) → RpA K H xs ds → Rp K H (.ref a) (.list ds)
  | tup {a : Addr} {xs : List V} {ds : List PyData} : H a = some (.tup xs) → RpA K H xs ds → Rp K H (.ref a) (.tuple ds)
  | ins {a C dx : Addr} {fs : List (Str × V)} {kd ds : List PyData} : H a = some (.ins C dx fs) → kd = fs.map (fun p => PyData.str p.1) → RpA K H (fs.map (·.2)) ds →
      Rp K H (.ref a) (.dict [(.int (Int.ofNat C), .tuple kd), (.none, .tuple ds)])
  | dct {a : Addr} {i j : Int} : H a = some (.dK [(.inl i, .int j)]) → Rp K H (.ref a) (.dict [(.int i, .int j)])
inductive RpA (K : PySem.W.Frag) (H : Hp) : List V → List PyData → Prop
  | nil : RpA K H [] []
  | cons {v : V} {vs : List V} {d : PyData} {ds : List PyData} : Rp K H v d → RpA K H vs ds → RpA K H (v :: vs) (d :: ds)
end
section
variable {K : PySem.W.Frag} {H H' : Hp}
mutual
theorem Rp.mono (e : Ex H H') : ∀ {v : V} {d : PyData}, Rp K H v d → Rp K H' v d
  | _, _, .non => .non
  | _, _, .bl b => .bl b
  | _, _, .int i => .int i
  | _, _, .str x => .str x
  | _, _, .lst h k => .lst (e _ _ h) (RpA.mono e k)
  | _, _, .tup h k => .tup (e _ _ h) (RpA.mono e k)
  | _, _, .ins h q k => .ins (e _ _ h) q (RpA.mono e k)
  | _, _, .dct h => .dct (e _ _ h)
theorem RpA.mono (e : Ex H H') : ∀ {vs : List V} {ds : List PyData}, RpA K H vs ds → RpA K H' vs ds
  | _, _, .nil => .nil
  | _, _, .cons h k => .cons (Rp.mono e h) (RpA.mono e k)
end
theorem RpA.length : ∀ {vs : List V} {ds : List PyData}, RpA K H vs ds → vs.length = ds.length
  | _, _, .nil => rfl
  | _, _, .cons _ k => by rw [List.length_cons, List.length_cons, RpA.length k]
theorem RpA.get : ∀ {vs : List V} {ds : List PyData} {i : Nat} {d : PyData}, RpA K H vs ds → ds[i]? = some d → ∃ v, vs[i]? = some v ∧ Rp K H v d
  | _, _, _, _, .nil, e => by simp at e
  | _, _, 0, _, .cons h _, e => by simp at e; subst e; exact ⟨_, rfl, h⟩
  | _, _, i + 1, d, .cons _ k, e => by
    obtain ⟨v, h1, h2⟩ := RpA.get (i := i) (d := d) k (by simpa using e)
    exact ⟨v, by simpa using h1, h2⟩
theorem RpA.getV : ∀ {vs : List V} {ds : List PyData} {i : Nat} {v : V}, RpA K H vs ds → vs[i]? = some v → ∃ d, ds[i]? = some d ∧ Rp K H v d
  | _, _, _, _, .nil, e => by simp at e
  | _, _, 0, _, .cons h _, e => by simp at e; subst e; exact ⟨_, rfl, h⟩
  | _, _, i + 1, d, .cons _ k, e => by
    obtain ⟨v, h1, h2⟩ := RpA.getV (i := i) (v := d) k (by simpa using e)
    exact ⟨v, by simpa using h1, h2⟩
theorem RpA.append : ∀ {vs ws : List V} {ds es : List PyData}, RpA K H vs ds → RpA K H ws es → RpA K H (vs ++ ws) (ds ++ es)
  | _, _, _, _, .nil, k => k
  | _, _, _, _, .cons h k, l => .cons h (RpA.append k l)
theorem RpA.one {v : V} {d : PyData} (h : Rp K H v d) : RpA K H [v] [d] := .cons h .nil
theorem RpA.set : ∀ {vs : List V} {ds : List PyData} {v : V} {d : PyData} (i : Nat), RpA K H vs ds → Rp K H v d → RpA K H (vs.set i v) (ds.set i d)
  | _, _, _, _, _, .nil, _ => .nil
  | _, _, _, _, 0, .cons _ k, h => .cons h k
  | _, _, _, _, i + 1, .cons q k, h => .cons q (RpA.set i k h)
theorem RpA.drop : ∀ {vs : List V} {ds : List PyData} (n : Nat), RpA K H vs ds → RpA K H (vs.drop n) (ds.drop n)
  | _, _, 0, r => r
  | _, _, _ + 1, .nil => .nil
  | _, _, n + 1, .cons _ t => RpA.drop n t
theorem RpA.take : ∀ {vs : List V} {ds : List PyData} (n : Nat), RpA K H vs ds → RpA K H (vs.take n) (ds.take n)
  | _, _, 0, _ => .nil
  | _, _, _ + 1, .nil => .nil
  | _, _, n + 1, .cons r t => .cons r (RpA.take n t)
theorem RpA.ints : ∀ {vs : List V} {ns : List Int}, RpA K H vs (ns.map PyData.int) → vs = ns.map V.int
  | [], [], _ => rfl
  | _ :: _, [], h => by cases h
  | [], _ :: _, h => by cases h
  | v :: vs, n :: ns, h => by
    cases h with
    | cons h k =>
      cases h
      rw [RpA.ints (vs := vs) (ns := ns) k]
      rfl
theorem RpA.ofInts : ∀ (ns : List Int), RpA K H (ns.map V.int) (ns.map PyData.int)
  | [] => .nil
  | n :: ns => .cons (.int n) (RpA.ofInts ns)
theorem RpA.bools : ∀ {vs : List V} {ns : List Bool}, RpA K H vs (ns.map PyData.bool) → vs = ns.map V.bl
  | [], [], _ => rfl
  | _ :: _, [], h => by cases h
  | [], _ :: _, h => by cases h
  | v :: vs, n :: ns, h => by
    cases h with
    | cons h k =>
      cases h
      rw [RpA.bools (vs := vs) (ns := ns) k]
      rfl
theorem Rp.i {v : V} {i : Int} (h : Rp K H v (.int i)) : v = .int i := by cases h; rfl
theorem Rp.b {v : V} {i : Bool} (h : Rp K H v (.bool i)) : v = .bl i := by cases h; rfl
theorem Rp.s {v : V} {i : Str} (h : Rp K H v (.str i)) : v = .str i := by cases h; rfl
theorem Rp.n {v : V} (h : Rp K H v .none) : v = .non := by cases h; rfl
theorem Rp.l {v : V} {ds : List PyData} (h : Rp K H v (.list ds)) : ∃ a xs, v = .ref a ∧ H a = some (.lst xs) ∧ RpA K H xs ds := by
  cases h with
  | lst h k => exact ⟨_, _, rfl, h, k⟩
theorem Rp.t {v : V} {ds : List PyData} (h : Rp K H v (.tuple ds)) : ∃ a xs, v = .ref a ∧ SqT K H a xs ∧ RpA K H xs ds := by
  cases h with
  | tup h k => exact ⟨_, _, rfl, st_of h, k⟩
theorem Rp.tH {v : V} {ds : List PyData} (h : Rp K H v (.tuple ds)) : ∃ a xs, v = .ref a ∧ H a = some (.tup xs) ∧ RpA K H xs ds := by
  cases h with
  | tup h k => exact ⟨_, _, rfl, h, k⟩
end

def TX (o : HO) : Prop := (∃ ps, o = .tbl ps) ∨ ∃ φ, o = .ext φ
class Tb where
  tb : Addr → Prop
  ok : Hp → Addr → Prop
  nn : ∀ {H : Hp} {a : Addr}, ok H a → H a ≠ none
  keep : ∀ {H H' : Hp} {a : Addr}, (∀ b o, H b = some o → TX o → H' b = some o) → ok H a → ok H' a
  nol : ∀ {H : Hp} {a : Addr} {o : HO}, ok H a → H a = some o → ∃ ps, o = .tbl ps
variable [Tb]
structure Base where
  G0 : Hp
  H0 : Hp
  dm : Addr → Prop
def Base.mu (B : Base) (b : Addr) : Prop := B.dm b ∨ Tb.tb b
def DrOk (H : Hp) (a : Addr) : Prop := ∃ (n : Int) (ns : List Int), H a = some (.lst (.int n :: ns.map V.int)) ∧ 1 ≤ n ∧ ns.length ≤ 5000
structure MuOk (B : Base) (H : Hp) (b : Addr) : Prop where
  in_ : B.mu b
  d : B.dm b → DrOk H b
  t : Tb.tb b → Tb.ok H b
structure I0 (G H : Hp) : Prop where
  ex : Ex G H
  tb : ∀ b, Tb.tb b → G b = none ∧ Tb.ok H b
structure Iv (B : Base) (G H : Hp) : Prop where
  gh : Ex G H
  g0 : Ex B.G0 G
  h0 : ∀ b o, B.H0 b = some o → ¬ B.mu b → H b = some o
  hid : ∀ b, B.H0 b ≠ none → B.G0 b = none → G b = none
  dr : ∀ b, B.mu b → G b = none ∧ MuOk B H b
structure Gm (B : Base) (G H G' H' : Hp) : Prop where
  gg : Ex G G'
  gh : Ex G' H'
  hh : ∀ b o, H b = some o → ¬ B.mu b → H' b = some o
  hid : ∀ b, H b ≠ none → G b = none → G' b = none
  dr : ∀ b, B.mu b → MuOk B H b → MuOk B H' b
inductive Ky where
  | i (n : Int)
  | t (l : List Int)
  deriving DecidableEq
def Ky.d : Ky → PyData
  | .i n => .int n
  | .t l => .tuple (l.map PyData.int)
inductive Sl where
  | no
  | sh (d : PyData)
  | ow (ds : List PyData)
  | dr
  | fz (ns : List Int)
  | od (b : Bool) (m : Ky → Option PyData) (n : Nat)
  | rd (b : Bool) (m : Ky → Option PyData) (n : Nat)
  | ol (dss : List (List PyData))
inductive OR (K : PySem.W.Frag) (G : Hp) : Option V → Option PyData → Prop
  | none : OR K G none none
  | some {v : V} {d : PyData} : Rp K G v d → OR K G (some v) (some d)
theorem OR.mono {K : PySem.W.Frag} {G G' : Hp} {v : Option V} {d : Option PyData} (e : Ex G G') (h : OR K G v d) : OR K G' v d := by
  cases h with
  | none => exact .none
  | some r => exact .some (r.mono e)
inductive DctR (K : PySem.W.Frag) (G : Hp) : HO → Bool → (Ky → Option PyData) → Nat → Prop
  | k {kvs : List (Key × V)} {m : Ky → Option PyData} {n : Nat} : (∀ i : Int, OR K G (valV kvs (Sum.inl i)) (m (.i i))) → kvs.length ≤ n → DctR K G (.dK kvs) true m n
  | t {kvs : List (List Key × V)} {m : Ky → Option PyData} {n : Nat} : (∀ l : List Int, OR K G (valV kvs (l.map Sum.inl)) (m (.t l))) → kvs.length ≤ n → DctR K G (.dT kvs) false m n
theorem DctR.mono {K : PySem.W.Frag} {G G' : Hp} {o : HO} {m : Ky → Option PyData} {n : Nat} {b : Bool} (e : Ex G G') (h : DctR K G o b m n) : DctR K G' o b m n := by
  cases h with
  | k h1 h2 => exact .k (fun i => (h1 i).mono e) h2
  | t h1 h2 => exact .t (fun l => (h1 l).mono e) h2
inductive LsR (K : PySem.W.Frag) (G H : Hp) : List Addr → List (List PyData) → Prop
  | nil : LsR K G H [] []
  | cons {a : Addr} {vs : List V} {ds : List PyData} {as : List Addr} {dss : List (List PyData)} : H a = some (.lst vs) → RpA K G vs ds → LsR K G H as dss → LsR K G H (a :: as) (ds :: dss)
theorem LsR.imp {K : PySem.W.Frag} {G H G' H' : Hp} {as : List Addr} {dss : List (List PyData)} (e : Ex G G') (k : ∀ a ∈ as, ∀ o, H a = some o → H' a = some o) (h : LsR K G H as dss) : LsR K G' H' as dss := by
  induction h with
  | nil => exact .nil
  | @cons a vs ds as dss h1 h2 _ ih => exact .cons (k a List.mem_cons_self _ h1) (h2.mono e) (ih fun b hb => k b (List.mem_cons_of_mem _ hb))
theorem LsR.at_ {K : PySem.W.Frag} {G H : Hp} {as : List Addr} {dss : List (List PyData)} (h : LsR K G H as dss) : ∀ a ∈ as, ∃ vs, H a = some (.lst vs) := by
  induction h with
  | nil => intro a h; cases h
  | cons h1 _ _ ih => intro b hb; rcases List.mem_cons.mp hb with rfl | hb; exact ⟨_, h1⟩; exact ih b hb
def Mine (B : Base) (G : Hp) (b : Addr) : Prop := B.H0 b = none ∧ ¬ B.mu b ∧ G b = none
def SlOk (K : PySem.W.Frag) (B : Base) (G H : Hp) (o : Option (Option V)) : Sl → Prop
  | .no => True
  | .sh d => ∃ v, o = some (some v) ∧ Rp K G v d
  | .ow ds => ∃ l vs, o = some (some (.ref l)) ∧ B.H0 l = none ∧ ¬ B.mu l ∧ G l = none ∧ H l = some (.lst vs) ∧ RpA K G vs ds
  | .dr => ∃ a, o = some (some (.ref a)) ∧ B.dm a
  | .fz ns => ∃ a, o = some (some (.ref a)) ∧ SqL K G a (ns.map V.int)
  | .od b m n => ∃ l u, o = some (some (.ref l)) ∧ Mine B G l ∧ H l = some u ∧ DctR K G u b m n
  | .rd b m n => ∃ l u, o = some (some (.ref l)) ∧ B.H0 l = some u ∧ ¬ B.mu l ∧ DctR K G u b m n
  | .ol dss => ∃ (l : Addr) (ls : List Addr), o = some (some (.ref l)) ∧ (l :: ls).Nodup ∧ (∀ b ∈ l :: ls, Mine B G b) ∧ H l = some (.lst (ls.map V.ref)) ∧ LsR K G H ls dss
def Owns (H : Hp) (o : Option (Option V)) (b : Addr) : Sl → Prop
  | .ow _ => o = some (some (.ref b))
  | .od _ _ _ => o = some (some (.ref b))
  | .ol _ => ∃ l, o = some (some (.ref l)) ∧ (b = l ∨ ∃ ls : List Addr, H l = some (.lst (ls.map V.ref)) ∧ b ∈ ls)
  | _ => False
theorem refs_inj : ∀ {a b : List Addr}, a.map V.ref = b.map V.ref → a = b
  | [], [], _ => rfl
  | [], _ :: _, h => by cases h
  | _ :: _, [], h => by cases h
  | x :: a, y :: b, h => by
    rw [List.map_cons, List.map_cons] at h
    injection h with h1 h2
    injection h1 with h1
    rw [h1, refs_inj h2]
abbrev En := List Sl
structure EnvD (K : PySem.W.Frag) (B : Base) (G H : Hp) (σ : L2.St) (δ : En) : Prop where
  iv : Iv B G H
  len : σ.length = δ.length
  ok : ∀ (i : Nat) (s : Sl), δ[i]? = some s → SlOk K B G H σ[i]? s
  ne : ∀ (i j : Nat) (s t : Sl) (b : Addr), i ≠ j → δ[i]? = some s → δ[j]? = some t → Owns H σ[i]? b s → Owns H σ[j]? b t → False
section
variable {K : PySem.W.Frag} {B : Base} {G H G' H' G2 H2 : Hp} {σ : L2.St} {δ : En}
theorem nn {H : Hp} {a : Addr} {o : HO} (h : H a = some o) : H a ≠ none := fun e => by rw [h] at e; cases e
theorem DrOk.nn {a : Addr} (h : DrOk H a) : H a ≠ none := by
  obtain ⟨_, _, e, _⟩ := h
  exact DL.nn e
theorem MuOk.nn {a : Addr} (h : MuOk B H a) : H a ≠ none := h.in_.elim (fun m => (h.d m).nn) fun m => Tb.nn (h.t m)
theorem MuOk.keep {a : Addr} (h : MuOk B H a) (k : ∀ b o, H b = some o → TX o → H' b = some o) (k2 : B.dm a → ∀ xs, H a = some (.lst xs) → H' a = some (.lst xs)) : MuOk B H' a :=
  ⟨h.in_, fun m => by
    obtain ⟨n, ns, e, r⟩ := h.d m
    exact ⟨n, ns, k2 m _ e, r⟩, fun m => Tb.keep k (h.t m)⟩
theorem MuOk.ex {a : Addr} (h : MuOk B H a) (k : Ex H H') : MuOk B H' a := h.keep (fun b o e _ => k b o e) fun _ xs e => k a _ e
theorem Ex.upd_new {p : Addr} {o : HO} (hp : H p = none) : Ex H (upd H p o) := fun b u e => by rw [upd_ne (ne_of_none e hp)]; exact e
def LL (o : HO) : Prop := ¬ TX o
theorem ll_lst {xs : List V} : LL (.lst xs) := fun h => by rcases h with ⟨_, e⟩ | ⟨_, e⟩ <;> cases e
theorem ll_dK {xs : List (Key × V)} : LL (.dK xs) := fun h => by rcases h with ⟨_, e⟩ | ⟨_, e⟩ <;> cases e
theorem ll_dT {xs : List (List Key × V)} : LL (.dT xs) := fun h => by rcases h with ⟨_, e⟩ | ⟨_, e⟩ <;> cases e
theorem ll_ins {C dx : Addr} {fs : List (Str × V)} : LL (.ins C dx fs) := fun h => by rcases h with ⟨_, e⟩ | ⟨_, e⟩ <;> cases e
theorem MuOk.upd {a b : Addr} {u u0 : HO} (h : MuOk B H a) (hb : H b = some u0) (l : LL u0) (nm : ¬ B.mu b) : MuOk B (L2.upd H b u) a := h.keep (fun c o e x => by
    have hc : c ≠ b := fun z => by
      rw [z, hb] at e
      cases e
      exact l x
    rw [upd_ne hc]; exact e) fun m xs e => by
    have hc : a ≠ b := fun z => nm (.inl (z ▸ m))
    rw [upd_ne hc]; exact e
theorem DctR.ll {K : PySem.W.Frag} {o : HO} {m : Ky → Option PyData} {n : Nat} {b : Bool} (h : DctR K G o b m n) : LL o := by
  cases h with
  | k _ _ => exact ll_dK
  | t _ _ => exact ll_dT
theorem SlOk.ll {s : Sl} {o : Option (Option V)} {b : Addr} (h : SlOk K B G H o s) (w : Owns H o b s) : ∃ u, H b = some u ∧ LL u := by
  cases s with
  | ow ds =>
    obtain ⟨l, vs, e1, e2, e3, e4, e5, _⟩ := h
    have w : o = some (some (.ref b)) := w
    rw [w] at e1
    cases e1
    exact ⟨_, e5, ll_lst⟩
  | od c m n =>
    obtain ⟨l, u, e1, e2, e3, r⟩ := h
    have w : o = some (some (.ref b)) := w
    rw [w] at e1
    cases e1
    exact ⟨_, e3, r.ll⟩
  | ol dss =>
    obtain ⟨l, ls, e1, _, e3, e4, e5⟩ := h
    obtain ⟨l2, f1, f2⟩ := w
    rw [f1] at e1
    cases e1
    rcases f2 with rfl | ⟨ls2, f3, f4⟩
    · exact ⟨_, e4, ll_lst⟩
    · rw [f3] at e4
      injection e4 with e4
      injection e4 with e4
      rw [refs_inj e4] at f4
      obtain ⟨vs, q⟩ := e5.at_ b f4
      exact ⟨_, q, ll_lst⟩
  | _ => exact w.elim
theorem Iv.i0 (I : Iv B G H) : I0 G H := ⟨I.gh, fun b m => ⟨(I.dr b (.inr m)).1, (I.dr b (.inr m)).2.t m⟩⟩
theorem Gm.refl (e : Ex G H) : Gm B G H G H := ⟨Ex.refl G, e, fun _ _ h _ => h, fun _ _ h => h, fun _ _ h => h⟩
theorem Iv.at (I : Iv B G H) (h : Gm B G H G' H') : Iv B G' H' where
  gh := h.gh
  g0 := I.g0.trans h.gg
  h0 := fun b o e m => h.hh b o (I.h0 b o e m) m
  hid := fun b n z => h.hid b (by
    by_cases m : B.mu b
    · exact (I.dr b m).2.nn
    · cases e : B.H0 b with
      | none => exact absurd e n
      | some o => exact nn (I.h0 b o e m)) (I.hid b n z)
  dr := fun b m => ⟨h.hid b (I.dr b m).2.nn (I.dr b m).1, h.dr b m (I.dr b m).2⟩
theorem Gm.trans (h : Gm B G H G' H') (k : Gm B G' H' G2 H2) (I : Iv B G H) : Gm B G H G2 H2 where
  gg := h.gg.trans k.gg
  gh := k.gh
  hh := fun b o e m => k.hh b o (h.hh b o e m) m
  hid := fun b n z => k.hid b (by
    by_cases m : B.mu b
    · exact (h.dr b m (I.dr b m).2).nn
    · cases e : H b with
      | none => exact absurd e n
      | some o => exact nn (h.hh b o e m)) (h.hid b n z)
  dr := fun b m q => k.dr b m (h.dr b m q)
theorem SlOk.mine {s : Sl} {o : Option (Option V)} {b : Addr} (h : SlOk K B G H o s) (w : Owns H o b s) : Mine B G b ∧ ∃ u, H b = some u := by
  cases s with
  | ow ds =>
    obtain ⟨l, vs, e1, e2, e3, e4, e5, _⟩ := h
    have w : o = some (some (.ref b)) := w
    rw [w] at e1
    cases e1
    exact ⟨⟨e2, e3, e4⟩, _, e5⟩
  | od c m n =>
    obtain ⟨l, u, e1, e2, e3, _⟩ := h
    have w : o = some (some (.ref b)) := w
    rw [w] at e1
    cases e1
    exact ⟨e2, _, e3⟩
  | ol dss =>
    obtain ⟨l, ls, e1, _, e3, e4, e5⟩ := h
    obtain ⟨l2, f1, f2⟩ := w
    rw [f1] at e1
    cases e1
    rcases f2 with rfl | ⟨ls2, f3, f4⟩
    · exact ⟨e3 _ List.mem_cons_self, _, e4⟩
    · rw [f3] at e4
      injection e4 with e4
      injection e4 with e4
      rw [refs_inj e4] at f4
      obtain ⟨vs, q⟩ := e5.at_ b f4
      exact ⟨e3 _ (List.mem_cons_of_mem _ f4), _, q⟩
  | _ => exact w.elim
theorem Owns.back {s : Sl} {o : Option (Option V)} {b : Addr} (h : SlOk K B G H o s) (k : ∀ l u, o = some (some (.ref l)) → H l = some u → ¬ B.mu l → H' l = some u) (w : Owns H' o b s) : Owns H o b s := by
  cases s with
  | ow ds => exact w
  | od c m n => exact w
  | ol dss =>
    obtain ⟨l, ls, e1, _, e3, e4, e5⟩ := h
    obtain ⟨l2, f1, f2⟩ := w
    refine ⟨l2, f1, ?_⟩
    rw [f1] at e1
    cases e1
    rcases f2 with rfl | ⟨ls2, f3, f4⟩
    · exact .inl rfl
    · have q := k _ _ f1 e4 (e3 _ List.mem_cons_self).2.1
      rw [f3] at q
      injection q with q
      injection q with q
      rw [refs_inj q] at f4
      exact .inr ⟨ls, e4, f4⟩
  | _ => exact w.elim
theorem SlOk.grow {s : Sl} {o : Option (Option V)} (q : SlOk K B G H o s) (gg : Ex G G') (hid : ∀ b, H b ≠ none → G b = none → G' b = none) (hh : ∀ b u, Owns H o b s → H b = some u → H' b = some u) : SlOk K B G' H' o s := by
  have mono : ∀ {b u}, Mine B G b → H b = some u → Mine B G' b := fun m e => ⟨m.1, m.2.1, hid _ (nn e) m.2.2⟩
  cases s with
  | no => trivial
  | sh d => obtain ⟨v, e1, r⟩ := q; exact ⟨v, e1, r.mono gg⟩
  | ow ds => obtain ⟨l, vs, e1, e2, e3, e4, e5, r⟩ := q; exact ⟨l, vs, e1, e2, e3, hid l (nn e5) e4, hh l _ e1 e5, r.mono gg⟩
  | dr => exact q
  | fz ns => obtain ⟨a, e1, r⟩ := q; exact ⟨a, e1, ex_l gg r⟩
  | od c m n => obtain ⟨l, u, e1, e2, e3, r⟩ := q; exact ⟨l, u, e1, mono e2 e3, hh l _ e1 e3, r.mono gg⟩
  | rd c m n => obtain ⟨l, u, e1, e2, e3, r⟩ := q; exact ⟨l, u, e1, e2, e3, r.mono gg⟩
  | ol dss =>
    obtain ⟨l, ls, e1, e2, e3, e4, e5⟩ := q
    refine ⟨l, ls, e1, e2, fun b hb => ?_, hh l _ ⟨l, e1, .inl rfl⟩ e4, e5.imp gg fun a ha u e => hh a u ⟨l, e1, .inr ⟨ls, e4, ha⟩⟩ e⟩
    rcases List.mem_cons.mp hb with rfl | h2
    · exact mono (e3 _ hb) e4
    · obtain ⟨vs, w⟩ := e5.at_ b h2
      exact mono (e3 _ hb) w
theorem EnvD.at (E : EnvD K B G H σ δ) (h : Gm B G H G' H') : EnvD K B G' H' σ δ where
  iv := E.iv.at h
  len := E.len
  ok := fun i s e => (E.ok i s e).grow h.gg h.hid fun b u w e2 => h.hh b u e2 ((E.ok i s e).mine w).1.2.1
  ne := fun i j s t b hij h1 h2 w1 w2 => E.ne i j s t b hij h1 h2 (Owns.back (E.ok i s h1) (fun l u _ e m => h.hh l u e m) w1) (Owns.back (E.ok j t h2) (fun l u _ e m => h.hh l u e m) w2)
theorem Gm.new (I : Iv B G H) {p : Addr} {o : HO} (hp : H p = none) : Gm B G H (upd G p o) (upd H p o) where
  gg := Ex.new (by
    cases e : G p with
    | none => rfl
    | some o => rw [I.gh p o e] at hp; cases hp)
  gh := fun b u e => by
    by_cases hb : b = p
    · subst hb
      rw [upd_same] at e ⊢
      exact e
    · rw [upd_ne hb] at e ⊢
      exact I.gh b u e
  hh := fun b u e _ => by rw [upd_ne (ne_of_none e hp)]; exact e
  hid := fun b n z => by
    have hb : b ≠ p := fun q => n (by rw [q]; exact hp)
    rw [upd_ne hb]
    exact z
  dr := fun b m q => q.ex (Ex.upd_new hp)
theorem Gm.newH (I : Iv B G H) {p : Addr} {o : HO} (hp : H p = none) : Gm B G H G (upd H p o) where
  gg := Ex.refl G
  gh := fun b u e => by rw [upd_ne (ne_of_none (I.gh b u e) hp)]; exact I.gh b u e
  hh := fun b u e _ => by rw [upd_ne (ne_of_none e hp)]; exact e
  hid := fun b _ z => z
  dr := fun b m q => q.ex (Ex.upd_new hp)

def ED (K : PySem.W.Frag) (B : Base) (te : TE) (δ : En) (P : PyData → Prop) : Prop := ∀ G H σ, EnvD K B G H σ δ → ∀ Q : VK, (∀ v d G' H', P d → Gm B G H G' H' → Rp K G' v d → Q v H') → te σ H Q
def ET (K : PySem.W.Frag) (B : Base) (tt : TT) (δ : En) (P : Bool → Prop) : Prop := ∀ G H σ, EnvD K B G H σ δ → ∀ Q : Bool → Hp → Prop, (∀ b G' H', P b → Gm B G H G' H' → Q b H') → tt σ H Q
def EA (K : PySem.W.Frag) (B : Base) (ta : TA) (δ : En) (P : List PyData → Prop) : Prop := ∀ G H σ, EnvD K B G H σ δ → ∀ Q : List V → Hp → Prop, (∀ vs ds G' H', P ds → Gm B G H G' H' → RpA K G' vs ds → Q vs H') → ta σ H Q
def EL (K : PySem.W.Frag) (B : Base) (te : TE) (δ : En) (P : List PyData → Prop) : Prop := ∀ G H σ, EnvD K B G H σ δ → ∀ Q : VK, (∀ p vs ds G' H', P ds → Gm B G H G' H' → H p = none → G' p = none → H' p = some (.lst vs) → RpA K G' vs ds → Q (.ref p) H') → te σ H Q
def RD (K : PySem.W.Frag) (r : R2) (a b : PyData) (P : PyData → Prop) : Prop := ∀ (B : Base) G H x y, Iv B G H → Rp K G x a → Rp K G y b → ∀ Q : VK, (∀ z d G' H', P d → Gm B G H G' H' → Rp K G' z d → Q z H') → r x y H Q
def CD (K : PySem.W.Frag) (r : List V → Hp → VK → Prop) (ds : List PyData) (P : PyData → Prop) : Prop := ∀ (B : Base) G H vs, Iv B G H → RpA K G vs ds → ∀ Q : VK, (∀ z d G' H', P d → Gm B G H G' H' → Rp K G' z d → Q z H') → r vs H Q
def CL (K : PySem.W.Frag) (r : List V → Hp → VK → Prop) (ds : List PyData) (P : List PyData → Prop) : Prop := ∀ (B : Base) G H vs, Iv B G H → RpA K G vs ds → ∀ Q : VK, (∀ p vs es G' H', P es → Gm B G H G' H' → H p = none → G' p = none → H' p = some (.lst vs) → RpA K G' vs es → Q (.ref p) H') → r vs H Q

variable {te ta tb : TE} {tt tu : TT} {P P' : PyData → Prop} {r : R2}
theorem ED.imp (h : ED K B te δ P) (k : ∀ d, P d → P' d) : ED K B te δ P' := fun G H σ E Q q => h G H σ E Q fun v d G' H' p m rp => q v d G' H' (k d p) m rp
theorem ED.is {d e : PyData} (h : ED K B te δ (· = d)) (k : d = e) : ED K B te δ (· = e) := by rw [← k]; exact h
theorem ET.imp {P P' : Bool → Prop} (h : ET K B tt δ P) (k : ∀ d, P d → P' d) : ET K B tt δ P' := fun G H σ E Q q => h G H σ E Q fun b G' H' p m => q b G' H' (k b p) m
theorem ET.is {a b : Bool} (h : ET K B tt δ (· = a)) (k : a = b) : ET K B tt δ (· = b) := by rw [← k]; exact h
theorem EA.imp {ta : TA} {P P' : List PyData → Prop} (h : EA K B ta δ P) (k : ∀ d, P d → P' d) : EA K B ta δ P' := fun G H σ E Q q => h G H σ E Q fun v d G' H' p m rp => q v d G' H' (k d p) m rp
theorem EL.imp {P P' : List PyData → Prop} (h : EL K B te δ P) (k : ∀ d, P d → P' d) : EL K B te δ P' := fun G H σ E Q q => h G H σ E Q fun p vs ds G' H' z => q p vs ds G' H' (k ds z)
theorem EL.ed {P : List PyData → Prop} (h : EL K B te δ P) : ED K B te δ (fun d => ∃ ds, P ds ∧ d = .list ds) := fun G H σ E Q q => h G H σ E Q fun p vs ds G' H' pd m hp gp hl rp => by
  have I' := E.iv.at m
  have ep : Ex G' (upd G' p (.lst vs)) := Ex.new gp
  refine q (.ref p) (.list ds) (upd G' p (.lst vs)) H' ⟨ds, pd, rfl⟩ ⟨m.gg.trans ep, fun b u e => ?_, m.hh, fun b n z => ?_, m.dr⟩ (.lst upd_same (rp.mono ep))
  · by_cases hb : b = p
    · subst hb
      rw [upd_same] at e
      cases e
      exact hl
    · rw [upd_ne hb] at e
      exact m.gh b u e
  · have hb : b ≠ p := fun y => n (by rw [y]; exact hp)
    rw [upd_ne hb]
    exact m.hid b n z
theorem EL.edd {ds : List PyData} (h : EL K B te δ (· = ds)) : ED K B te δ (· = .list ds) := h.ed.imp fun d ⟨es, e1, e2⟩ => by rw [e2, e1]
theorem ed_var {i : Nat} {d : PyData} (h : δ[i]? = some (.sh d)) : ED K B (tVar i) δ (· = d) := fun G H σ E Q q => by
  obtain ⟨v, e, r⟩ := E.ok i _ h
  exact ⟨v, e, q v d G H rfl (Gm.refl E.iv.gh) r⟩
theorem ed_int {i : Int} : ED K B (tC (.int i)) δ (· = .int i) := fun G H σ E Q q => q _ _ G H rfl (Gm.refl E.iv.gh) (.int i)
theorem ed_bl {i : Bool} : ED K B (tC (.bl i)) δ (· = .bool i) := fun G H σ E Q q => q _ _ G H rfl (Gm.refl E.iv.gh) (.bl i)
theorem ed_str {i : Str} : ED K B (tC (.str i)) δ (· = .str i) := fun G H σ E Q q => q _ _ G H rfl (Gm.refl E.iv.gh) (.str i)
theorem ed_non : ED K B (tC .non) δ (· = .none) := fun G H σ E Q q => q _ _ G H rfl (Gm.refl E.iv.gh) .non
theorem ed_op {Pa Pb : PyData → Prop} (ha : ED K B ta δ Pa) (hb : ED K B tb δ Pb) (hr : ∀ a b, Pa a → Pb b → RD K r a b P) : ED K B (tOp r ta tb) δ P := fun G H σ E Q q =>
  ha G H σ E _ fun x a G1 H1 pa m1 ra => hb G1 H1 σ (E.at m1) _ fun y b G2 H2 pb m2 rb =>
    hr a b pa pb B G2 H2 x y ((E.at m1).iv.at m2) (ra.mono m2.gg) rb Q fun z d G3 H3 pd m3 rd => q z d G3 H3 pd ((m1.trans m2 E.iv).trans m3 E.iv) rd
theorem ed_opd {a b : PyData} (ha : ED K B ta δ (· = a)) (hb : ED K B tb δ (· = b)) (hr : RD K r a b P) : ED K B (tOp r ta tb) δ P := ed_op ha hb fun x y ex ey => by subst ex; subst ey; exact hr
theorem rd_I0i {f : Int → Int → Int} {i j : Int} : RD K (rI0 fun i j => .int (f i j)) (.int i) (.int j) (· = .int (f i j)) := fun B G H x y I rx ry Q q => by
  rw [rx.i, ry.i]
  exact ⟨i, j, rfl, rfl, q _ _ G H rfl (Gm.refl I.gh) (.int _)⟩
theorem rd_I0b {f : Int → Int → Bool} {i j : Int} : RD K (rI0 fun i j => .bl (f i j)) (.int i) (.int j) (· = .bool (f i j)) := fun B G H x y I rx ry Q q => by
  rw [rx.i, ry.i]
  exact ⟨i, j, rfl, rfl, q _ _ G H rfl (Gm.refl I.gh) (.bl _)⟩
theorem rd_Ii {C : Int → Int → Prop} {f : Int → Int → Int} {i j : Int} (c : C i j) : RD K (rI C fun i j => .int (f i j)) (.int i) (.int j) (· = .int (f i j)) := fun B G H x y I rx ry Q q => by
  rw [rx.i, ry.i]
  exact ⟨i, j, rfl, rfl, c, q _ _ G H rfl (Gm.refl I.gh) (.int _)⟩
theorem ed_opi {f : Int → Int → Int} {i j : Int} (ha : ED K B ta δ (· = .int i)) (hb : ED K B tb δ (· = .int j)) : ED K B (tOp (rI0 fun i j => .int (f i j)) ta tb) δ (· = .int (f i j)) := ed_opd ha hb rd_I0i
theorem ed_opb {f : Int → Int → Bool} {i j : Int} (ha : ED K B ta δ (· = .int i)) (hb : ED K B tb δ (· = .int j)) : ED K B (tOp (rI0 fun i j => .bl (f i j)) ta tb) δ (· = .bool (f i j)) := ed_opd ha hb rd_I0b
theorem ed_opc {C : Int → Int → Prop} {f : Int → Int → Int} {i j : Int} (ha : ED K B ta δ (· = .int i)) (hb : ED K B tb δ (· = .int j)) (c : C i j) : ED K B (tOp (rI C fun i j => .int (f i j)) ta tb) δ (· = .int (f i j)) := ed_opd ha hb (rd_Ii c)
theorem rd_ixL {ds : List PyData} {i : Int} {d : PyData} (h : atI ds i = some d) : RD K (rIxL K) (.list ds) (.int i) (· = d) := fun B G H x y I rx ry Q q => by
  rw [ry.i]
  obtain ⟨a, xs, rfl, ha, hx⟩ := rx.l
  unfold atI at h
  cases e : ixN ds.length i with
  | none => rw [e] at h; cases h
  | some j =>
    rw [e] at h
    obtain ⟨v, h1, h2⟩ := hx.get (show ds[j]? = some d from h)
    exact ⟨a, xs, i, v, rfl, rfl, sq_of (I.gh _ _ ha), (by unfold atI; rw [hx.length, e]; exact h1), q v d G H rfl (Gm.refl I.gh) h2⟩
theorem rd_ixT {ds : List PyData} {i : Int} {d : PyData} (h : atI ds i = some d) : RD K (rIxT K) (.tuple ds) (.int i) (· = d) := fun B G H x y I rx ry Q q => by
  rw [ry.i]
  obtain ⟨a, xs, rfl, ha, hx⟩ := rx.t
  unfold atI at h
  cases e : ixN ds.length i with
  | none => rw [e] at h; cases h
  | some j =>
    rw [e] at h
    obtain ⟨v, h1, h2⟩ := hx.get (show ds[j]? = some d from h)
    exact ⟨a, xs, i, v, rfl, rfl, ex_t I.gh ha, (by unfold atI; rw [hx.length, e]; exact h1), q v d G H rfl (Gm.refl I.gh) h2⟩
def scalD : PyData → PyData → Bool
  | .none, .none => true | .none, .int _ => true | .int _, .none => true | .none, .bool _ => true | .bool _, .none => true | .none, .str _ => true | .str _, .none => true
  | .int _, .int _ => true | .bool _, .bool _ => true | .str _, .str _ => true
  | .int _, .str _ => true | .str _, .int _ => true | .bool _, .str _ => true | .str _, .bool _ => true
  | _, _ => false
def eqS : PyData → PyData → Bool
  | .none, .none => true
  | .int i, .int j => decide (i = j)
  | .bool i, .bool j => decide (i = j)
  | .str i, .str j => decide (i = j)
  | _, _ => false
theorem eqS_ok {x y : V} {a b : PyData} (s : scalD a b = true) (ha : Rp K G x a) (hb : Rp K G y b) : scal x y = true ∧ decide (x = y) = eqS a b := by
  cases ha <;> cases hb <;> first | exact ⟨rfl, by simp [eqS]⟩ | (exfalso; revert s; simp [scalD])
theorem rd_eq {a b : PyData} (s : scalD a b = true) : RD K rEq a b (· = .bool (eqS a b)) := fun B G H x y I rx ry Q q => by
  obtain ⟨h1, h2⟩ := eqS_ok s rx ry
  exact ⟨h1, q _ _ G H rfl (Gm.refl I.gh) (by rw [h2]; exact .bl _)⟩
theorem rd_ne {a b : PyData} (s : scalD a b = true) : RD K rNe a b (· = .bool (!eqS a b)) := fun B G H x y I rx ry Q q => by
  obtain ⟨h1, h2⟩ := eqS_ok s rx ry
  exact ⟨h1, q _ _ G H rfl (Gm.refl I.gh) (by rw [h2]; exact .bl _)⟩
theorem et_test {b : Bool} (h : ED K B te δ (· = .bool b)) : ET K B (tTest te) δ (· = b) := fun G H σ E Q q => h G H σ E _ fun v d G' H' e m rp => by
  subst e
  rw [rp.b]
  exact ⟨b, rfl, q b G' H' rfl m⟩
theorem et_B {b : Bool} (h : ED K B te δ (· = .bool b)) : ET K B (tB te) δ (· = b) := fun G H σ E Q q => h G H σ E _ fun v d G' H' e m rp => by
  subst e
  rw [rp.b]
  exact ⟨b, rfl, q b G' H' rfl m⟩
theorem et_testP {P : Bool → Prop} (h : ED K B te δ (fun d => ∃ b, P b ∧ d = .bool b)) : ET K B (tTest te) δ P := fun G H σ E Q q => h G H σ E _ fun v d G' H' e m rp => by
  obtain ⟨b, p, rfl⟩ := e
  rw [rp.b]
  exact ⟨b, rfl, q b G' H' p m⟩
theorem et_yes : ET K B tYes δ (· = true) := fun G H σ E Q q => q true G H rfl (Gm.refl E.iv.gh)
theorem et_not {a : Bool} (h : ET K B tt δ (· = a)) : ET K B (tNot tt) δ (· = !a) := fun G H σ E Q q => h G H σ E _ fun b G' H' e m => q _ G' H' (by rw [e]) m
theorem et_and {a b : Bool} (h1 : ET K B tt δ (· = a)) (h2 : a = true → ET K B tu δ (· = b)) : ET K B (tAnd tt tu) δ (· = (a && b)) := fun G H σ E Q q => h1 G H σ E _ fun c G1 H1 e m => by
  subst e
  cases c with
  | true => exact h2 rfl G1 H1 σ (E.at m) Q fun b' G2 H2 e2 m2 => q b' G2 H2 (by rw [e2]; rfl) (m.trans m2 E.iv)
  | false => exact q false G1 H1 rfl m
theorem et_or {a b : Bool} (h1 : ET K B tt δ (· = a)) (h2 : a = false → ET K B tu δ (· = b)) : ET K B (tOr tt tu) δ (· = (a || b)) := fun G H σ E Q q => h1 G H σ E _ fun c G1 H1 e m => by
  subst e
  cases c with
  | true => exact q true G1 H1 rfl m
  | false => exact h2 rfl G1 H1 σ (E.at m) Q fun b' G2 H2 e2 m2 => q b' G2 H2 (by rw [e2]; rfl) (m.trans m2 E.iv)
theorem ed_andV {a b : Bool} (h1 : ED K B ta δ (· = .bool a)) (h2 : a = true → ED K B tb δ (· = .bool b)) : ED K B (tAndV ta tb) δ (· = .bool (a && b)) := fun G H σ E Q q => h1 G H σ E _ fun v d G1 H1 e m rp => by
  subst e
  rw [rp.b]
  cases a with
  | true => exact ⟨true, rfl, h2 rfl G1 H1 σ (E.at m) Q fun v' d' G2 H2 e2 m2 r2 => q v' d' G2 H2 (by rw [e2]; rfl) (m.trans m2 E.iv) r2⟩
  | false => exact ⟨false, rfl, q _ _ G1 H1 rfl m (.bl false)⟩
theorem ed_notV {a : Bool} (h1 : ED K B ta δ (· = .bool a)) : ED K B (tNotV ta) δ (· = .bool (!a)) := fun G H σ E Q q => h1 G H σ E _ fun v d G1 H1 e m rp => by
  subst e
  rw [rp.b]
  exact ⟨a, rfl, q _ _ G1 H1 rfl m (.bl _)⟩
theorem ea_nil : EA K B tNil δ (· = []) := fun G H σ E Q q => q [] [] G H rfl (Gm.refl E.iv.gh) .nil
theorem ea_consP {tr : TA} {Pr : List PyData → Prop} (h : ED K B te δ P) (hr : EA K B tr δ Pr) : EA K B (tCons te tr) δ (fun l => ∃ d ds, P d ∧ Pr ds ∧ l = d :: ds) := fun G H σ E Q q =>
  h G H σ E _ fun v d G1 H1 pd m1 rd => hr G1 H1 σ (E.at m1) _ fun vs ds G2 H2 ps m2 rs => q (v :: vs) (d :: ds) G2 H2 ⟨d, ds, pd, ps, rfl⟩ (m1.trans m2 E.iv) (.cons (rd.mono m2.gg) rs)
theorem ea_cons {tr : TA} {d : PyData} {ds : List PyData} (h : ED K B te δ (· = d)) (hr : EA K B tr δ (· = ds)) : EA K B (tCons te tr) δ (· = d :: ds) := (ea_consP h hr).imp fun l ⟨x, xs, e1, e2, e3⟩ => by rw [e3, e1, e2]
theorem el_lstP {ta : TA} {P : List PyData → Prop} (h : EA K B ta δ P) (hl : ∀ ds, P ds → ds.length ≤ 100000) : EL K B (tLst ta) δ P := fun G H σ E Q q =>
  h G H σ E _ fun vs ds G1 H1 pd m rs => ⟨sz_of (by rw [rs.length]; exact hl ds pd), fun p hp => by
    have I1 := E.iv.at m
    refine q p vs ds G1 (upd H1 p (.lst vs)) pd (m.trans (Gm.newH I1 hp) E.iv) ?_ ?_ upd_same rs
    · cases e : H p with
      | none => rfl
      | some o =>
        by_cases mu : B.mu p
        · exact absurd hp (m.dr p mu (E.iv.dr p mu).2).nn
        · rw [m.hh p o e mu] at hp; cases hp
    · cases e : G1 p with
      | none => rfl
      | some o => rw [I1.gh p o e] at hp; cases hp⟩
theorem el_lst {ta : TA} {ds : List PyData} (h : EA K B ta δ (· = ds)) (hl : ds.length ≤ 100000) : EL K B (tLst ta) δ (· = ds) := el_lstP h fun es e => by rw [e]; exact hl
theorem ed_tupP {ta : TA} {P : List PyData → Prop} (h : EA K B ta δ P) (hl : ∀ ds, P ds → ds.length ≤ 100000) : ED K B (tTup ta) δ (fun d => ∃ ds, P ds ∧ d = .tuple ds) := fun G H σ E Q q =>
  h G H σ E _ fun vs ds G1 H1 pd m rs => ⟨sz_of (by rw [rs.length]; exact hl ds pd), fun p hp => by
    have I1 := E.iv.at m
    have m2 := Gm.new (o := .tup vs) I1 hp
    exact q (.ref p) (.tuple ds) _ _ ⟨ds, pd, rfl⟩ (m.trans m2 E.iv) (.tup upd_same (rs.mono m2.gg))⟩
theorem ed_tup {ta : TA} {ds : List PyData} (h : EA K B ta δ (· = ds)) (hl : ds.length ≤ 100000) : ED K B (tTup ta) δ (· = .tuple ds) := (ed_tupP h fun es e => by rw [e]; exact hl).imp fun d ⟨es, e1, e2⟩ => by rw [e2, e1]
theorem ed_cbP {rc : List V → Hp → VK → Prop} {ta : TA} {Pa : List PyData → Prop} (h : EA K B ta δ Pa) (hr : ∀ ds, Pa ds → CD K rc ds P) : ED K B (tCB rc ta) δ P := fun G H σ E Q q =>
  h G H σ E _ fun vs ds G1 H1 pd m rs => hr ds pd B G1 H1 vs (E.iv.at m) rs Q fun z d G2 H2 p2 m2 r2 => q z d G2 H2 p2 (m.trans m2 E.iv) r2
theorem ed_cb {rc : List V → Hp → VK → Prop} {ta : TA} {ds : List PyData} (h : EA K B ta δ (· = ds)) (hr : CD K rc ds P) : ED K B (tCB rc ta) δ P := ed_cbP h fun es e => by rw [e]; exact hr
theorem back {B : Base} {G H G' H' : Hp} (I : Iv B G H) (m : Gm B G H G' H') {p : Addr} (h : H' p = none) : H p = none := by
  cases e : H p with
  | none => rfl
  | some o =>
    by_cases mu : B.mu p
    · exact absurd h (m.dr p mu (I.dr p mu).2).nn
    · rw [m.hh p o e mu] at h; cases h
theorem el_cbP {rc : List V → Hp → VK → Prop} {ta : TA} {Pa Pl : List PyData → Prop} (h : EA K B ta δ Pa) (hr : ∀ ds, Pa ds → CL K rc ds Pl) : EL K B (tCB rc ta) δ Pl := fun G H σ E Q q =>
  h G H σ E _ fun vs ds G1 H1 pd m rs => hr ds pd B G1 H1 vs (E.iv.at m) rs Q fun p vs' es G2 H2 p2 m2 hp gp hl r2 => q p vs' es G2 H2 p2 (m.trans m2 E.iv) (back E.iv m hp) gp hl r2
theorem el_cb {rc : List V → Hp → VK → Prop} {ta : TA} {ds : List PyData} {Pl : List PyData → Prop} (h : EA K B ta δ (· = ds)) (hr : CL K rc ds Pl) : EL K B (tCB rc ta) δ Pl := el_cbP h fun es e => by rw [e]; exact hr
end
end DL
namespace DL
variable [Tb]
open PySem L2 Evl
section
variable {K : PySem.W.Frag} {B : Base} {G H G' H' G2 H2 : Hp} {σ : L2.St} {δ : En} {te ta tb : TE} {tt tu : TT} {t u tz : TS}

theorem EnvD.put (E : EnvD K B G H σ δ) (m : Gm B G H G' H') (i : Nat) (x : Option V) (s : Sl) (hs : SlOk K B G' H' (some x) s) (fr : ∀ b, Owns H' (some x) b s → H b = none) : EnvD K B G' H' (σ.set i x) (δ.set i s) := by
  have E' := E.at m
  refine ⟨E'.iv, by rw [List.length_set, List.length_set, E'.len], fun j t e => ?_, fun j k t u b hjk h1 h2 w1 w2 => ?_⟩
  · rw [List.getElem?_set] at e
    rw [List.getElem?_set, E'.len]
    by_cases h : i = j
    · rw [if_pos h] at e ⊢
      split at e
      · rename_i hl
        cases e
        rw [if_pos hl]
        exact hs
      · cases e
    · rw [if_neg h] at e ⊢
      exact E'.ok j t e
  · rw [List.getElem?_set] at h1 h2 w1 w2
    rw [E'.len] at w1 w2
    have old : ∀ (x : Nat) (t : Sl), δ[x]? = some t → Owns H' σ[x]? b t → ∃ u, H b = some u := fun x t q1 q2 => ((E.ok x t q1).mine (Owns.back (E.ok x t q1) (fun l u _ e mu => m.hh l u e mu) q2)).2
    by_cases hj : i = j
    · by_cases hk : i = k
      · exact hjk (hj.symm.trans hk)
      · rw [if_pos hj] at h1 w1
        rw [if_neg hk] at h2 w2
        split at h1
        · rename_i hl
          cases h1
          rw [if_pos hl] at w1
          obtain ⟨v, q⟩ := old k _ h2 w2
          rw [fr b w1] at q
          cases q
        · cases h1
    · rw [if_neg hj] at h1 w1
      by_cases hk : i = k
      · rw [if_pos hk] at h2 w2
        split at h2
        · rename_i hl
          cases h2
          rw [if_pos hl] at w2
          obtain ⟨v, q⟩ := old j _ h1 w1
          rw [fr b w2] at q
          cases q
        · cases h2
      · rw [if_neg hk] at h2 w2
        exact E'.ne j k t u b hjk h1 h2 w1 w2
theorem EnvD.setNo (E : EnvD K B G H σ δ) (i : Nat) (x : Option V) : EnvD K B G H (σ.set i x) (δ.set i .no) := E.put (Gm.refl E.iv.gh) i x .no trivial fun b w => w.elim
theorem EnvD.set (E : EnvD K B G H σ δ) (i : Nat) {v : V} {d : PyData} (r : Rp K G v d) : EnvD K B G H (σ.set i (some v)) (δ.set i (.sh d)) := E.put (Gm.refl E.iv.gh) i (some v) (.sh d) ⟨v, rfl, r⟩ fun b w => w.elim
theorem Iv.fresh (I : Iv B G H) {p : Addr} (hp : H p = none) : B.H0 p = none ∧ ¬ B.mu p := by
  have nmu : ¬ B.mu p := fun mu => (I.dr p mu).2.nn hp
  refine ⟨?_, nmu⟩
  cases e : B.H0 p with
  | none => rfl
  | some o => rw [I.h0 p o e nmu] at hp; cases hp
theorem EnvD.own (E : EnvD K B G H σ δ) (m : Gm B G H G' H') (i : Nat) {p : Addr} {vs : List V} {ds : List PyData} (hp : H p = none) (gp : G' p = none) (hl : H' p = some (.lst vs)) (r : RpA K G' vs ds) :
    EnvD K B G' H' (σ.set i (some (.ref p))) (δ.set i (.ow ds)) := by
  obtain ⟨h0, nmu⟩ := E.iv.fresh hp
  refine E.put m i (some (.ref p)) (.ow ds) ⟨p, vs, rfl, h0, nmu, gp, hl, r⟩ fun b w => ?_
  have w : (some (some (V.ref p)) : Option (Option V)) = some (some (.ref b)) := w
  cases w
  exact hp
theorem EnvD.upd (E : EnvD K B G H σ δ) {i : Nat} {s s' : Sl} {b : Addr} {u : HO} (hi : δ[i]? = some s) (hb : Owns H σ[i]? b s) (hs : SlOk K B G (L2.upd H b u) σ[i]? s') (same : ∀ c, Owns (L2.upd H b u) σ[i]? c s' → Owns H σ[i]? c s) : EnvD K B G (L2.upd H b u) σ (δ.set i s') := by
  obtain ⟨⟨m1, m2, m3⟩, u0, hu0⟩ := (E.ok i s hi).mine hb
  have il : i < δ.length := (List.getElem?_eq_some_iff.mp hi).1
  have other : ∀ j t, i ≠ j → δ[j]? = some t → ∀ l, Owns H σ[j]? l t → l ≠ b := fun j t hij ht l w z => E.ne i j s t b hij hi ht hb (z ▸ w)
  have back : ∀ j t, i ≠ j → δ[j]? = some t → ∀ c, Owns (L2.upd H b u) σ[j]? c t → Owns H σ[j]? c t := fun j t hij ht c w => by
    cases t with
    | ow ds => exact w
    | od c m n => exact w
    | ol dss =>
      obtain ⟨l, f1, f2⟩ := w
      refine ⟨l, f1, ?_⟩
      rcases f2 with rfl | ⟨ls, f3, f4⟩
      · exact .inl rfl
      · rw [upd_ne (other j _ hij ht l ⟨l, f1, .inl rfl⟩)] at f3
        exact .inr ⟨ls, f3, f4⟩
    | _ => exact w.elim
  refine ⟨⟨fun c o e => ?_, E.iv.g0, fun c o e m => ?_, E.iv.hid, fun c m => ⟨(E.iv.dr c m).1, ?_⟩⟩, by rw [List.length_set, E.len], fun j t e => ?_, fun j k t w c hjk h1 h2 w1 w2 => ?_⟩
  · have hb : c ≠ b := fun q => by rw [q, m3] at e; cases e
    rw [upd_ne hb]
    exact E.iv.gh c o e
  · have hb : c ≠ b := fun q => by rw [q, m1] at e; cases e
    rw [upd_ne hb]
    exact E.iv.h0 c o e m
  · obtain ⟨u1, hu1, l1⟩ := (E.ok i s hi).ll hb
    exact (E.iv.dr c m).2.upd hu1 l1 m2
  · rw [List.getElem?_set] at e
    by_cases h : i = j
    · rw [if_pos h, if_pos il] at e
      cases e
      rw [← h]
      exact hs
    · rw [if_neg h] at e
      exact (E.ok j t e).grow (Ex.refl G) (fun _ _ z => z) fun c v w e2 => by rw [upd_ne (other j t h e c w)]; exact e2
  · rw [List.getElem?_set] at h1 h2
    by_cases hj : i = j
    · by_cases hk : i = k
      · exact hjk (hj.symm.trans hk)
      · rw [if_pos hj, if_pos il] at h1
        rw [if_neg hk] at h2
        cases h1
        rw [← hj] at w1
        exact E.ne i k s w c (fun z => hk z) hi h2 (same c w1) (back k w hk h2 c w2)
    · rw [if_neg hj] at h1
      by_cases hk : i = k
      · rw [if_pos hk, if_pos il] at h2
        cases h2
        rw [← hk] at w2
        exact E.ne j i t s c (fun z => hj z.symm) h1 hi (back j t hj h1 c w1) (same c w2)
      · rw [if_neg hk] at h2
        exact E.ne j k t w c hjk h1 h2 (back j t hj h1 c w1) (back k w hk h2 c w2)
theorem EnvD.chg (E : EnvD K B G H σ δ) {i : Nat} {l : Addr} {ds es : List PyData} {ws : List V} (hi : δ[i]? = some (.ow ds)) (hs : σ[i]? = some (some (.ref l))) (r : RpA K G ws es) :
    EnvD K B G (L2.upd H l (.lst ws)) σ (δ.set i (.ow es)) := by
  obtain ⟨l', vs, e1, e2, e3, e4, e5, _⟩ := E.ok i _ hi
  rw [hs] at e1
  cases e1
  exact E.upd hi hs ⟨l, ws, hs, e2, e3, e4, upd_same, r⟩ fun c w => w
theorem EnvD.sink (E : EnvD K B G H σ δ) {i : Nat} {s s' : Sl} (hi : δ[i]? = some s) (eg : Ex G G') (gh : Ex G' H) (new : ∀ b, G b = none → G' b ≠ none → Owns H σ[i]? b s) (hs : SlOk K B G' H σ[i]? s') (no : ∀ b, ¬ Owns H σ[i]? b s') : EnvD K B G' H σ (δ.set i s') := by
  have il : i < δ.length := (List.getElem?_eq_some_iff.mp hi).1
  have stay : ∀ b, ¬ Owns H σ[i]? b s → G b = none → G' b = none := fun b h e => by
    cases q : G' b with
    | none => rfl
    | some o => exact absurd (new b e (by rw [q]; exact fun z => by cases z)) h
  refine ⟨⟨gh, E.iv.g0.trans eg, E.iv.h0, fun b n z => stay b (fun w => ?_) (E.iv.hid b n z), fun b m => ⟨stay b (fun w => ?_) (E.iv.dr b m).1, (E.iv.dr b m).2⟩⟩, by rw [List.length_set, E.len], fun j t e => ?_, fun j k t u c hjk h1 h2 w1 w2 => ?_⟩
  · exact n ((E.ok i s hi).mine w).1.1
  · exact ((E.ok i s hi).mine w).1.2.1 m
  · rw [List.getElem?_set] at e
    by_cases h : i = j
    · rw [if_pos h, if_pos il] at e
      cases e
      rw [← h]
      exact hs
    · rw [if_neg h] at e
      have q := E.ok j t e
      have mv : ∀ b, Owns H σ[j]? b t → Mine B G b → Mine B G' b := fun b w m => ⟨m.1, m.2.1, stay b (fun w2 => E.ne i j s t b h hi e w2 w) m.2.2⟩
      cases t with
      | no => trivial
      | sh d => obtain ⟨v, q1, q2⟩ := q; exact ⟨v, q1, q2.mono eg⟩
      | dr => exact q
      | fz ns => obtain ⟨a, q1, q2⟩ := q; exact ⟨a, q1, ex_l eg q2⟩
      | rd c m n => obtain ⟨l, u, f1, f2, f3, f4⟩ := q; exact ⟨l, u, f1, f2, f3, f4.mono eg⟩
      | ow fs => obtain ⟨l, vs, f1, f2, f3, f4, f5, f6⟩ := q; obtain ⟨g1, g2, g3⟩ := mv l f1 ⟨f2, f3, f4⟩; exact ⟨l, vs, f1, g1, g2, g3, f5, f6.mono eg⟩
      | od c m n => obtain ⟨l, u, f1, f2, f3, f4⟩ := q; exact ⟨l, u, f1, mv l f1 f2, f3, f4.mono eg⟩
      | ol dss =>
        obtain ⟨l, ls, f1, f2, f3, f4, f5⟩ := q
        refine ⟨l, ls, f1, f2, fun b hb => mv b ⟨l, f1, ?_⟩ (f3 b hb), f4, f5.imp eg fun _ _ _ z => z⟩
        rcases List.mem_cons.mp hb with rfl | hb
        · exact .inl rfl
        · exact .inr ⟨ls, f4, hb⟩
  · rw [List.getElem?_set] at h1 h2
    by_cases hj : i = j
    · rw [if_pos hj, if_pos il] at h1
      cases h1
      rw [← hj] at w1
      exact no c w1
    · by_cases hk : i = k
      · rw [if_pos hk, if_pos il] at h2
        cases h2
        rw [← hk] at w2
        exact no c w2
      · rw [if_neg hj] at h1
        rw [if_neg hk] at h2
        exact E.ne j k t u c hjk h1 h2 w1 w2
theorem EnvD.freeze (E : EnvD K B G H σ δ) {i : Nat} {ds : List PyData} (hi : δ[i]? = some (.ow ds)) : ∃ G', Ex G G' ∧ EnvD K B G' H σ (δ.set i (.sh (.list ds))) ∧ ∃ v, σ[i]? = some (some v) ∧ Rp K G' v (.list ds) := by
  obtain ⟨l, vs, e1, e2, e3, e4, e5, r⟩ := E.ok i _ hi
  have ep : Ex G (L2.upd G l (.lst vs)) := Ex.new e4
  have rl : Rp K (L2.upd G l (.lst vs)) (.ref l) (.list ds) := .lst upd_same (r.mono ep)
  refine ⟨L2.upd G l (.lst vs), ep, E.sink hi ep (fun b o e => ?_) (fun b e n => ?_) ⟨_, e1, rl⟩ (fun b w => w.elim), _, e1, rl⟩
  · by_cases hb : b = l
    · subst hb
      rw [upd_same] at e
      cases e
      exact e5
    · rw [upd_ne hb] at e
      exact E.iv.gh b o e
  · by_cases hb : b = l
    · subst hb; exact e1
    · rw [upd_ne hb] at n; exact absurd e n
def wipeD (δ : En) : List Nat → En
  | [] => δ
  | i :: is => (wipeD δ is).set i .no
theorem EnvD.wipe (E : EnvD K B G H σ δ) : ∀ vs : List Nat, EnvD K B G H (L2.wipe σ vs) (wipeD δ vs)
  | [] => E
  | i :: is => (EnvD.wipe E is).setNo i none
theorem wipe_get (σ : L2.St) : ∀ (vs : List Nat) (j : Nat), (L2.wipe σ vs)[j]? = if j ∈ vs then σ[j]?.map (fun _ => none) else σ[j]?
  | [], j => by simp [L2.wipe]
  | v :: vs, j => by
    unfold L2.wipe
    rw [List.getElem?_set, wipe_get σ vs j, wipe_length]
    by_cases h : v = j
    · subst h
      rw [if_pos rfl, if_pos List.mem_cons_self]
      by_cases hl : v < σ.length
      · rw [if_pos hl, List.getElem?_eq_getElem hl]; rfl
      · rw [if_neg hl, List.getElem?_eq_none (by omega)]; rfl
    · rw [if_neg h]
      have e : (j ∈ v :: vs) ↔ (j ∈ vs) := by
        rw [List.mem_cons]
        exact ⟨fun q => q.elim (fun z => absurd z.symm h) id, .inr⟩
      by_cases hm : j ∈ vs
      · rw [if_pos hm, if_pos (e.mpr hm)]
      · rw [if_neg hm, if_neg (fun q => hm (e.mp q))]
theorem wipe_set {i : Nat} {x : Option V} {vs : List Nat} (h : i ∈ vs) : L2.wipe (σ.set i x) vs = L2.wipe σ vs := by
  apply List.ext_getElem?
  intro j
  rw [wipe_get, wipe_get, List.getElem?_set]
  by_cases hj : j ∈ vs
  · rw [if_pos hj, if_pos hj]
    by_cases e : i = j
    · rw [if_pos e]
      subst e
      by_cases hl : i < σ.length
      · rw [if_pos hl, List.getElem?_eq_getElem hl]; rfl
      · rw [if_neg hl, List.getElem?_eq_none (by omega)]
    · rw [if_neg e]
  · rw [if_neg hj, if_neg hj, if_neg (fun e : i = j => hj (e ▸ h))]
theorem wipe_wipe {vs : List Nat} : L2.wipe (L2.wipe σ vs) vs = L2.wipe σ vs := by
  apply List.ext_getElem?
  intro j
  rw [wipe_get, wipe_get]
  by_cases hj : j ∈ vs
  · rw [if_pos hj, if_pos hj]
    cases σ[j]? <;> rfl
  · rw [if_neg hj, if_neg hj]

def GD (K : PySem.W.Frag) (B : Base) (g : TG) (d : PyData) (δ δ' : En) (is : List Nat) : Prop := ∀ G H σ v, EnvD K B G H σ δ → Rp K G v d → ∀ Q : L2.St → Hp → Prop,
  (∀ σ', EnvD K B G H σ' δ' → (∀ vs : List Nat, (∀ i ∈ is, i ∈ vs) → L2.wipe σ' vs = L2.wipe σ vs) → Q σ' H) → g v σ H Q
def GDs (K : PySem.W.Frag) (B : Base) (g : TGs) (ds : List PyData) (δ δ' : En) (is : List Nat) : Prop := ∀ G H σ vs, EnvD K B G H σ δ → RpA K G vs ds → ∀ Q : L2.St → Hp → Prop,
  (∀ σ', EnvD K B G H σ' δ' → (∀ vs : List Nat, (∀ i ∈ is, i ∈ vs) → L2.wipe σ' vs = L2.wipe σ vs) → Q σ' H) → g vs σ H Q
theorem gd_name {i : Nat} {d : PyData} : GD K B (gName i) d δ (δ.set i (.sh d)) [i] := fun G H σ v E r Q q => q _ (E.set i r) fun vs h => wipe_set (h i List.mem_cons_self)
theorem gds_nil : GDs K B gNil [] δ δ [] := fun G H σ vs E r Q q => by
  cases r
  exact ⟨rfl, q _ E fun vs _ => rfl⟩
theorem gds_cons {g : TG} {gs : TGs} {d : PyData} {ds : List PyData} {δ1 δ2 : En} {is js : List Nat} (h : GD K B g d δ δ1 is) (hs : GDs K B gs ds δ1 δ2 js) : GDs K B (gCons g gs) (d :: ds) δ δ2 (is ++ js) := fun G H σ vs E r Q q => by
  cases r with
  | cons r rs =>
    exact ⟨_, _, rfl, h G H σ _ E r _ fun σ1 E1 w1 => hs G H σ1 _ E1 rs _ fun σ2 E2 w2 => q σ2 E2 fun vs hv =>
      (w2 vs fun i hi => hv i (List.mem_append_right _ hi)).trans (w1 vs fun i hi => hv i (List.mem_append_left _ hi))⟩
theorem gd_tup {gs : TGs} {n : Nat} {ds : List PyData} {δ' : En} {is : List Nat} (h : GDs K B gs ds δ δ' is) (hn : ds.length = n) : GD K B (gTup K n gs) (.tuple ds) δ δ' is := fun G H σ v E r Q q => by
  obtain ⟨a, xs, rfl, ha, rs⟩ := r.t
  exact ⟨a, xs, rfl, ex_t E.iv.gh ha, by rw [rs.length, hn], h G H σ xs E rs Q q⟩
theorem gd_2 {i j : Nat} {a b : PyData} : GD K B (gTup K 2 (gCons (gName i) (gCons (gName j) gNil))) (.tuple [a, b]) δ ((δ.set i (.sh a)).set j (.sh b)) [i, j] := gd_tup (gds_cons gd_name (gds_cons gd_name gds_nil)) rfl
theorem gd_12 {i j k : Nat} {a b c : PyData} : GD K B (gTup K 2 (gCons (gName i) (gCons (gTup K 2 (gCons (gName j) (gCons (gName k) gNil))) gNil))) (.tuple [a, .tuple [b, c]]) δ (((δ.set i (.sh a)).set j (.sh b)).set k (.sh c)) [i, j, k] :=
  gd_tup (gds_cons gd_name (gds_cons gd_2 gds_nil)) rfl

structure JD (K : PySem.W.Frag) (G : Hp) (J : It) (ds : List PyData) : Prop where
  go : ∀ i H, Ex G H → i < ds.length → J.go i H
  stop : ∀ H, Ex G H → J.stop ds.length H
  yld : ∀ i H x H', Ex G H → i < ds.length → J.yld i H x H' → ∀ B G1, Ex G G1 → Iv B G1 H → ∃ G2 d, Gm B G1 H G2 H' ∧ ds[i]? = some d ∧ Rp K G2 x d
def WD (K : PySem.W.Frag) (B : Base) (wi : TI) (δ : En) (P : List PyData → Prop) : Prop := ∀ G H σ, EnvD K B G H σ δ → ∀ R : It → Hp → Prop, (∀ J ds G' H', P ds → Gm B G H G' H' → JD K G' J ds → R J H') → wi σ H R
theorem jd_list {a : Addr} {xs : List V} {ds : List PyData} (h : G a = some (.lst xs)) (r : RpA K G xs ds) : JD K G (Itl K a) ds where
  go := fun i H e hi => walk_list.goes i H (by rw [r.length]; exact hi) (sq_of (e _ _ h))
  stop := fun H e => by rw [← r.length]; exact walk_list.stops H (sq_of (e _ _ h))
  yld := fun i H x H' e hi y B G1 e1 I => by
    obtain ⟨e2, e3⟩ := walk_list.yields i H x H' (by rw [r.length]; exact hi) (sq_of (e _ _ h)) y
    obtain ⟨d, h1, h2⟩ := r.getV e3
    rw [e2]
    exact ⟨G1, d, Gm.refl I.gh, h1, h2.mono e1⟩
theorem jd_tup {a : Addr} {xs : List V} {ds : List PyData} (h : SqT K G a xs) (r : RpA K G xs ds) : JD K G (Itt K a) ds where
  go := fun i H e hi => walk_tup.goes i H (by rw [r.length]; exact hi) (ex_t e h)
  stop := fun H e => by rw [← r.length]; exact walk_tup.stops H (ex_t e h)
  yld := fun i H x H' e hi y B G1 e1 I => by
    obtain ⟨e2, e3⟩ := walk_tup.yields i H x H' (by rw [r.length]; exact hi) (ex_t e h) y
    obtain ⟨d, h1, h2⟩ := r.getV e3
    rw [e2]
    exact ⟨G1, d, Gm.refl I.gh, h1, h2.mono e1⟩
def rngD (lo : Int) (n : Nat) : List PyData := (List.range n).map fun i : Nat => .int (lo + (i : Int))
theorem rngD_len {lo : Int} {n : Nat} : (rngD lo n).length = n := by unfold rngD; rw [List.length_map, List.length_range]
theorem rngD_get {lo : Int} {n i : Nat} (h : i < n) : (rngD lo n)[i]? = some (.int (lo + (i : Int))) := by
  unfold rngD
  rw [List.getElem?_map, List.getElem?_range h]; rfl
theorem rngD_mem {lo : Int} {n : Nat} {d : PyData} (h : d ∈ rngD lo n) : ∃ i : Nat, i < n ∧ d = .int (lo + (i : Int)) := by
  unfold rngD at h
  obtain ⟨i, h1, h2⟩ := List.mem_map.mp h
  exact ⟨i, List.mem_range.mp h1, h2.symm⟩
theorem jd_rng {lo : Int} {n : Nat} : JD K G (Itr lo n) (rngD lo n) where
  go := fun i H e hi => walk_range.goes i H (by rw [rngD_len] at hi; exact hi) trivial
  stop := fun H e => by rw [rngD_len]; exact walk_range.stops H trivial
  yld := fun i H x H' e hi y B G1 e1 I => by
    rw [rngD_len] at hi
    obtain ⟨e2, e3⟩ := walk_range.yields i H x H' hi trivial y
    rw [e2, e3]
    exact ⟨G1, _, Gm.refl I.gh, rngD_get hi, .int _⟩
def enumD (ds : List PyData) : List PyData := ds.zipIdx.map fun p => .tuple [.int (p.2 : Nat), p.1]
theorem enumD_len {ds : List PyData} : (enumD ds).length = ds.length := by unfold enumD; rw [List.length_map, List.length_zipIdx]
theorem enumD_get {ds : List PyData} {i : Nat} {d : PyData} (h : ds[i]? = some d) : (enumD ds)[i]? = some (.tuple [.int (i : Nat), d]) := by
  unfold enumD
  rw [List.getElem?_map, List.getElem?_zipIdx, h]
  simp
theorem jd_enum {a : Addr} {xs : List V} {ds : List PyData} (h : G a = some (.lst xs)) (r : RpA K G xs ds) : JD K G (Ite K a) (enumD ds) where
  go := fun i H e hi => walk_enum.goes i H (by rw [enumD_len] at hi; rw [r.length]; exact hi) (sq_of (e _ _ h))
  stop := fun H e => by rw [enumD_len, ← r.length]; exact walk_enum.stops H (sq_of (e _ _ h))
  yld := fun i H x H' e hi y B G1 e1 I => by
    rw [enumD_len] at hi
    obtain ⟨T, x1, y1, h1, h2, h3, h4, h5⟩ := walk_enum.yields i H x H' (by rw [r.length]; exact hi) (sq_of (e _ _ h)) y
    cases h4
    obtain ⟨d, h6, h7⟩ := r.getV h5
    rw [h1, h3]
    have m := Gm.new (o := .tup [.int (i : Nat), y1]) I h2
    exact ⟨_, _, m, enumD_get h6, .tup upd_same (.cons (.int _) (.one ((h7.mono e1).mono m.gg)))⟩
theorem wd_listP {P : PyData → Prop} {P' : List PyData → Prop} (h : ED K B te δ P) (k : ∀ d, P d → ∃ ds, d = .list ds ∧ P' ds) : WD K B (iList K te) δ P' := fun G H σ E R q => h G H σ E _ fun v d G1 H1 pd m r => by
  obtain ⟨ds, rfl, p⟩ := k d pd
  obtain ⟨a, xs, rfl, ha, rs⟩ := r.l
  exact ⟨a, rfl, ⟨xs, sq_of (m.gh _ _ ha)⟩, q _ ds G1 H1 p m (jd_list ha rs)⟩
theorem wd_list {ds : List PyData} (h : ED K B te δ (· = .list ds)) : WD K B (iList K te) δ (· = ds) := wd_listP h fun d e => ⟨ds, e, rfl⟩
theorem wd_tup {ds : List PyData} (h : ED K B te δ (· = .tuple ds)) : WD K B (iTup K te) δ (· = ds) := fun G H σ E R q => h G H σ E _ fun v d G1 H1 pd m r => by
  subst pd
  obtain ⟨a, xs, rfl, ha, rs⟩ := r.t
  exact ⟨a, rfl, ⟨xs, ex_t m.gh ha⟩, q _ ds G1 H1 rfl m (jd_tup ha rs)⟩
theorem wd_rng1 {ta : TA} {n : Int} (h : EA K B ta δ (· = [.int n])) (h1 : -(2 ^ 62) ≤ n) (h2 : n < 2 ^ 62) : WD K B (iRng1 ta) δ (· = rngD 0 n.toNat) := fun G H σ E R q => h G H σ E _ fun vs ds G1 H1 pd m r => by
  subst pd
  cases r with
  | cons r rs =>
    cases rs
    rw [r.i]
    exact ⟨n, rfl, h1, h2, q _ _ G1 H1 rfl m jd_rng⟩
theorem wd_rng2 {ta : TA} {a n : Int} (h : EA K B ta δ (· = [.int a, .int n])) (h1 : -(2 ^ 62) ≤ a ∧ a < 2 ^ 62 ∧ -(2 ^ 62) ≤ n ∧ n < 2 ^ 62) : WD K B (iRng2 ta) δ (· = rngD a (n - a).toNat) := fun G H σ E R q => h G H σ E _ fun vs ds G1 H1 pd m r => by
  subst pd
  cases r with
  | cons r rs =>
    cases rs with
    | cons r2 rs =>
      cases rs
      rw [r.i, r2.i]
      exact ⟨a, n, rfl, h1, q _ _ G1 H1 rfl m jd_rng⟩
theorem wd_enum {ta : TA} {ds : List PyData} (h : EA K B ta δ (· = [.list ds])) : WD K B (iEnum K ta) δ (· = enumD ds) := fun G H σ E R q => h G H σ E _ fun vs es G1 H1 pd m r => by
  subst pd
  cases r with
  | cons r rs =>
    cases rs
    obtain ⟨a, xs, rfl, ha, rs⟩ := r.l
    exact ⟨a, xs, rfl, sq_of (m.gh _ _ ha), q _ _ G1 H1 rfl m (jd_enum ha rs)⟩

inductive CompR (Pt : PyData → Bool → Prop) (Pe : PyData → PyData → Prop) : List PyData → List PyData → Prop
  | nil : CompR Pt Pe [] []
  | skip {ds es d} : CompR Pt Pe ds es → Pt d false → CompR Pt Pe (ds ++ [d]) es
  | take {ds es d e} : CompR Pt Pe ds es → Pt d true → Pe d e → CompR Pt Pe (ds ++ [d]) (es ++ [e])
theorem CompR.len {Pt : PyData → Bool → Prop} {Pe : PyData → PyData → Prop} {ds es : List PyData} (h : CompR Pt Pe ds es) : es.length ≤ ds.length := by
  induction h with
  | nil => exact Nat.le_refl _
  | skip _ _ ih => rw [List.length_append]; omega
  | take _ _ _ ih => rw [List.length_append, List.length_append, List.length_singleton, List.length_singleton]; omega
theorem CompR.det {Pt : PyData → Bool → Prop} {Pe : PyData → PyData → Prop} {ds es : List PyData} {p : PyData → Bool} {f : PyData → PyData} (h : CompR Pt Pe ds es) (hp : ∀ d b, d ∈ ds → Pt d b → b = p d) (hf : ∀ d e, d ∈ ds → Pe d e → e = f d) : es = (ds.filter p).map f := by
  induction h with
  | nil => rfl
  | @skip ds es d h q ih =>
    rw [ih (fun x b hx => hp x b (List.mem_append_left _ hx)) (fun x b hx => hf x b (List.mem_append_left _ hx)), List.filter_append, List.filter_cons, ← hp d _ (by simp) q]
    simp
  | @take ds es d e h q k ih =>
    rw [ih (fun x b hx => hp x b (List.mem_append_left _ hx)) (fun x b hx => hf x b (List.mem_append_left _ hx)), List.filter_append, List.filter_cons, ← hp d _ (by simp) q, hf d e (by simp) k]
    simp
theorem CompR.all {Pe : PyData → PyData → Prop} {Pt : PyData → Bool → Prop} {ds es : List PyData} {P : PyData → Prop} (h : CompR Pt Pe ds es) (hf : ∀ d e, d ∈ ds → Pe d e → P e) : ∀ e ∈ es, P e := by
  induction h with
  | nil => intro e he; cases he
  | skip h q ih => exact ih fun x b hx => hf x b (List.mem_append_left _ hx)
  | @take ds es d e h q k ih =>
    intro x hx
    rcases List.mem_append.mp hx with h1 | h1
    · exact ih (fun x b hx => hf x b (List.mem_append_left _ hx)) x h1
    · rw [List.mem_singleton.mp h1]
      exact hf d e (by simp) k
theorem CompR.full {Pe : PyData → PyData → Prop} {Pt : PyData → Bool → Prop} {ds es : List PyData} (h : CompR Pt Pe ds es) (hf : ∀ d, d ∈ ds → ¬ Pt d false) : es.length = ds.length := by
  induction h with
  | nil => rfl
  | skip h q ih => exact absurd q (hf _ (by simp))
  | take h q k ih => rw [List.length_append, List.length_append, ih fun d hd => hf d (List.mem_append_left _ hd)]; rfl
theorem el_lc {wi : TI} {g : TG} {vs : List Nat} {Pd : List PyData → Prop} {Pt : PyData → Bool → Prop} {Pe : PyData → PyData → Prop} (hw : WD K B wi δ Pd)
    (hb : ∀ ds d, Pd ds → d ∈ ds → ∃ δ2 is, GD K B g d (wipeD δ vs) δ2 is ∧ (∀ i ∈ is, i ∈ vs) ∧ ET K B tt δ2 (Pt d) ∧ (Pt d true → ED K B te δ2 (Pe d))) (hn : ∀ ds, Pd ds → ds.length ≤ 50000) :
    EL K B (tLc wi g tt te vs) δ (fun es => ∃ ds, Pd ds ∧ CompR Pt Pe ds es) := fun G H σ E Q q => hw G H σ E _ fun J ds G1 H1 pd m jd => by
  intro D hD
  have I1 : Iv B G1 H1 := E.iv.at m
  have nmu : ¬ B.mu D := fun mu => (I1.dr D mu).2.nn hD
  have gD : G1 D = none := by
    cases e : G1 D with
    | none => rfl
    | some o => rw [I1.gh D o e] at hD; cases hD
  have hz := hn ds pd
  refine ⟨fun i k H' => k = ds.length - i ∧ i ≤ ds.length ∧ ∃ G' acc es, Gm B G1 H1 G' H' ∧ G' D = none ∧ H' D = some (.lst acc) ∧ RpA K G' acc es ∧ CompR Pt Pe (ds.take i) es, ⟨ds.length, by simp, Nat.zero_le _, G1, [], [], Gm.newH I1 hD, gD, upd_same, .nil, by rw [List.take_zero]; exact .nil⟩, ?_⟩
  rintro i k Hc ⟨rfl, hi, G', acc, es, m', gp, hl, ra, cr⟩
  have I2 : Iv B G' Hc := I1.at m'
  by_cases hlt : i < ds.length
  · refine .inr ⟨jd.go i Hc (m'.gg.trans m'.gh) hlt, fun H' => i + 1 ≤ ds.length ∧ ∃ G' acc es, Gm B G1 H1 G' H' ∧ G' D = none ∧ H' D = some (.lst acc) ∧ RpA K G' acc es ∧ CompR Pt Pe (ds.take (i + 1)) es, fun H' p => ⟨ds.length - (i + 1), by omega, rfl, p⟩, fun x H3 y => ?_⟩
    obtain ⟨G3, d, m3, hd, rx⟩ := jd.yld i Hc x H3 (m'.gg.trans m'.gh) hlt y B G' m'.gg I2
    have E3 : EnvD K B G3 H3 σ δ := ((E.at m).at m').at m3
    obtain ⟨δ2, is, hg, his, ht, he⟩ := hb ds d pd (List.mem_of_getElem? hd)
    have tk : ds.take (i + 1) = ds.take i ++ [d] := by
      rw [List.take_add_one, hd]; rfl
    refine hg G3 H3 _ x (E3.wipe vs) rx _ fun σ2 E4 w4 => ⟨by rw [w4 vs his, wipe_wipe], ht G3 H3 σ2 E4 _ fun b G5 H5 pt m5 => ?_⟩
    have E5 := E4.at m5
    cases b with
    | true =>
      show te σ2 H5 _
      refine he pt G5 H5 σ2 E5 _ fun v e G6 H6 pe m6 re => ?_
      have l6 : H6 D = some (.lst acc) := m6.hh D _ (m5.hh D _ (m3.hh D _ hl nmu) nmu) nmu
      have g6 : G6 D = none := m6.hid D (nn (m5.hh D _ (m3.hh D _ hl nmu) nmu)) (m5.hid D (nn (m3.hh D _ hl nmu)) (m3.hid D (nn hl) gp))
      have mm : Gm B G1 H1 G6 H6 := ((m'.trans m3 I1).trans m5 I1).trans m6 I1
      have al : acc.length ≤ i := by
        rw [ra.length]
        have := cr.len
        rw [List.length_take] at this
        omega
      refine ⟨acc, l6, sz_lt (by omega), hlt, G6, acc ++ [v], es ++ [e], ⟨mm.gg, fun b o e => ?_, fun b o e mu => ?_, mm.hid, fun b mu q => ?_⟩, g6, upd_same, ?_, ?_⟩
      · have hb : b ≠ D := fun z => by rw [z, g6] at e; cases e
        rw [upd_ne hb]
        exact mm.gh b o e
      · have hb : b ≠ D := fun z => by rw [z, hD] at e; cases e
        rw [upd_ne hb]
        exact mm.hh b o e mu
      · exact (mm.dr b mu q).upd l6 ll_lst nmu
      · exact (ra.mono ((m3.gg.trans m5.gg).trans m6.gg)).append (.one re)
      · rw [tk]
        exact .take cr pt pe
    | false =>
      show _ ∧ _
      have l5 : H5 D = some (.lst acc) := m5.hh D _ (m3.hh D _ hl nmu) nmu
      have g5 : G5 D = none := m5.hid D (nn (m3.hh D _ hl nmu)) (m3.hid D (nn hl) gp)
      refine ⟨hlt, G5, acc, es, (m'.trans m3 I1).trans m5 I1, g5, l5, ra.mono (m3.gg.trans m5.gg), ?_⟩
      rw [tk]
      exact .skip cr pt
  · have e : i = ds.length := by omega
    subst e
    rw [List.take_length] at cr
    exact .inl ⟨jd.stop Hc (m'.gg.trans m'.gh), q D acc es G' Hc ⟨ds, pd, cr⟩ (m.trans m' E.iv) (back E.iv m hD) gp hl ra⟩
theorem el_lcd {wi : TI} {g : TG} {vs : List Nat} {ds : List PyData} (p : PyData → Bool) (f : PyData → PyData) (hw : WD K B wi δ (· = ds))
    (hb : ∀ d, d ∈ ds → ∃ δ2 is, GD K B g d (wipeD δ vs) δ2 is ∧ (∀ i ∈ is, i ∈ vs) ∧ ET K B tt δ2 (· = p d) ∧ (p d = true → ED K B te δ2 (· = f d))) (hn : ds.length ≤ 50000) :
    EL K B (tLc wi g tt te vs) δ (· = (ds.filter p).map f) := (el_lc (Pt := fun d b => b = p d) (Pe := fun d e => e = f d) hw (fun es d e hd => by
      subst e
      obtain ⟨δ2, is, h1, h2, h3, h4⟩ := hb d hd
      exact ⟨δ2, is, h1, h2, h3, fun h => h4 h.symm⟩) (fun es e => by rw [e]; exact hn)).imp fun es ⟨xs, e, c⟩ => by
  rw [← e]
  exact c.det (fun _ _ _ h => h) fun _ _ _ h => h
end
end DL
namespace DL
variable [Tb]
open PySem L2 Evl
structure Po where
  nx : En → Prop
  rt : PyData → Prop := fun _ => False
  bk : En → Prop := fun _ => False
  ct : En → Prop := fun _ => False
section
variable {K : PySem.W.Frag} {B : Base} {G H G' H' G2 H2 : Hp} {σ : L2.St} {δ : En} {te ta tb : TE} {tt tu : TT} {t u tz : TS} {P : Po}
def SD (K : PySem.W.Frag) (B : Base) (t : TS) (δ : En) (P : Po) : Prop := ∀ G H σ (D : Ends), EnvD K B G H σ δ → (∀ δ' G' H' σ', P.nx δ' → Ex G G' → EnvD K B G' H' σ' δ' → D.nx σ' H') →
  (∀ v d G' H', P.rt d → Ex G G' → Iv B G' H' → Rp K G' v d → D.rt v H') → (∀ δ' G' H' σ', P.bk δ' → Ex G G' → EnvD K B G' H' σ' δ' → D.bk σ' H') → (∀ δ' G' H' σ', P.ct δ' → Ex G G' → EnvD K B G' H' σ' δ' → D.ct σ' H') → t D σ H
theorem SD.imp {P' : Po} (h : SD K B t δ P) (k1 : ∀ d, P.nx d → P'.nx d) (k2 : ∀ d, P.rt d → P'.rt d) (k3 : ∀ d, P.bk d → P'.bk d) (k4 : ∀ d, P.ct d → P'.ct d) : SD K B t δ P' := fun G H σ D E a b c d =>
  h G H σ D E (fun δ' G' H' σ' p => a δ' G' H' σ' (k1 _ p)) (fun v x G' H' p => b v x G' H' (k2 _ p)) (fun δ' G' H' σ' p => c δ' G' H' σ' (k3 _ p)) (fun δ' G' H' σ' p => d δ' G' H' σ' (k4 _ p))
theorem sd_cons (h : SD K B t δ ⟨fun δ' => SD K B u δ' P, P.rt, P.bk, P.ct⟩) : SD K B (tSeq t u) δ P := fun G H σ D E a b c d =>
  h G H σ { D with nx := u D } E (fun δ' G' H' σ' p e E' => p G' H' σ' D E' (fun δ2 G2 H2 σ2 q e2 E2 => a δ2 G2 H2 σ2 q (e.trans e2) E2) (fun v x G2 H2 q e2 => b v x G2 H2 q (e.trans e2)) (fun δ2 G2 H2 σ2 q e2 => c δ2 G2 H2 σ2 q (e.trans e2)) (fun δ2 G2 H2 σ2 q e2 => d δ2 G2 H2 σ2 q (e.trans e2))) b c d
theorem sd_mid (Mid : En → Prop) (h : SD K B t δ ⟨Mid, P.rt, P.bk, P.ct⟩) (k : ∀ δ', Mid δ' → SD K B u δ' P) : SD K B (tSeq t u) δ P := sd_cons (h.imp k (fun _ p => p) (fun _ p => p) (fun _ p => p))
theorem sd_next (h : P.nx δ) : SD K B tNext δ P := fun G H σ D E a _ _ _ => a δ G H σ h (Ex.refl G) E
theorem sd_asgG {g : TG} {Pd : PyData → Prop} (h : ED K B te δ Pd) (k : ∀ d, Pd d → ∃ δ' is, GD K B g d δ δ' is ∧ P.nx δ') : SD K B (tAsg te g) δ P := fun G H σ D E a _ _ _ =>
  h G H σ E _ fun v d G1 H1 pd m r => by
    obtain ⟨δ', is, hg, n⟩ := k d pd
    exact hg G1 H1 σ v (E.at m) r _ fun σ' E' _ => a δ' G1 H1 σ' n m.gg E'
theorem sd_asg {i : Nat} {Pd : PyData → Prop} (h : ED K B te δ Pd) (k : ∀ d, Pd d → P.nx (δ.set i (.sh d))) : SD K B (tAsg te (gName i)) δ P := sd_asgG h fun d pd => ⟨_, _, gd_name, k d pd⟩
theorem sd_asgd {i : Nat} {d : PyData} (h : ED K B te δ (· = d)) (k : P.nx (δ.set i (.sh d))) : SD K B (tAsg te (gName i)) δ P := sd_asg h fun e q => by subst q; exact k
theorem sd_own {i : Nat} {Pl : List PyData → Prop} (h : EL K B te δ Pl) (k : ∀ ds, Pl ds → P.nx (δ.set i (.ow ds))) : SD K B (tAsg te (gName i)) δ P := fun G H σ D E a _ _ _ =>
  h G H σ E _ fun p vs ds G1 H1 pd m hp gp hl r => a _ G1 H1 _ (k ds pd) m.gg (E.own m i hp gp hl r)
theorem sd_ownd {i : Nat} {ds : List PyData} (h : EL K B te δ (· = ds)) (k : P.nx (δ.set i (.ow ds))) : SD K B (tAsg te (gName i)) δ P := sd_own h fun e q => by subst q; exact k
theorem sd_freeze (i : Nat) {ds : List PyData} (hi : δ[i]? = some (.ow ds)) (h : SD K B t (δ.set i (.sh (.list ds))) P) : SD K B t δ P := fun G H σ D E a b c d => by
  obtain ⟨G', e, E', _⟩ := E.freeze hi
  exact h G' H σ D E' (fun δ2 G2 H2 σ2 q e2 E2 => a δ2 G2 H2 σ2 q (e.trans e2) E2) (fun v x G2 H2 q e2 => b v x G2 H2 q (e.trans e2)) (fun δ2 G2 H2 σ2 q e2 => c δ2 G2 H2 σ2 q (e.trans e2)) (fun δ2 G2 H2 σ2 q e2 => d δ2 G2 H2 σ2 q (e.trans e2))
theorem sd_app {i : Nat} {ds : List PyData} {Pd : PyData → Prop} (hi : δ[i]? = some (.ow ds)) (h : ED K B te δ Pd) (hz : ds.length < 90000) (k : ∀ d, Pd d → P.nx (δ.set i (.ow (ds ++ [d])))) :
    SD K B (tDrop (tBM K "list" rAppend (tVar i) (tCons te tNil))) δ P := fun G H σ D E a _ _ _ => by
  obtain ⟨l, vs, e1, _, e3, _, e5, r⟩ := E.ok i _ hi
  refine ⟨.ref l, e1, .inl ⟨rfl, vs, sq_of e5⟩, h G H σ E _ fun v d G1 H1 pd m rd => ?_⟩
  have e6 := m.hh l _ e5 e3
  refine ⟨l, vs, v, rfl, rfl, e6, sz_lt (by rw [r.length]; omega), ?_⟩
  exact a _ G1 _ σ (k d pd) m.gg ((E.at m).chg hi e1 ((r.mono m.gg).append (.one rd)))
theorem sd_store {i : Nat} {ti : TE} {ds : List PyData} {Pd : PyData → Prop} {j : Nat} (hi : δ[i]? = some (.ow ds)) (h : ED K B te δ Pd) (hj : ED K B ti δ (· = .int (j : Int))) (hl : j < ds.length) (k : ∀ d, Pd d → P.nx (δ.set i (.ow (ds.set j d)))) :
    SD K B (tAsg te (gSub (tVar i) ti rSetL)) δ P := fun G H σ D E a _ _ _ => h G H σ E _ fun v d G1 H1 pd m rd => by
  obtain ⟨l, vs, e1, _, e3, _, e5, r⟩ := E.ok i _ hi
  refine ⟨.ref l, e1, hj G1 H1 σ (E.at m) _ fun w x G2 H2 px m2 rx => ?_⟩
  subst px
  rw [rx.i]
  have mm := m.trans m2 E.iv
  have e6 := mm.hh l _ e5 e3
  refine ⟨l, vs, _, j, rfl, rfl, e6, ixN_nat (by rw [r.length]; exact hl), ?_⟩
  exact a _ G2 _ σ (k d pd) mm.gg ((E.at mm).chg hi e1 ((r.mono mm.gg).set j (rd.mono m2.gg)))
theorem sd_drop {Pd : PyData → Prop} (h : ED K B te δ Pd) (k : P.nx δ) : SD K B (tDrop te) δ P := fun G H σ D E a _ _ _ => h G H σ E _ fun v d G1 H1 pd m r => a δ G1 H1 σ k m.gg (E.at m)
theorem sd_ret {Pd : PyData → Prop} (h : ED K B te δ Pd) (k : ∀ d, Pd d → P.rt d) : SD K B (tRet te) δ P := fun G H σ D E _ b _ _ => h G H σ E _ fun v d G1 H1 pd m r => b v d G1 H1 (k d pd) m.gg (E.iv.at m) r
theorem sd_retd {d : PyData} (h : ED K B te δ (· = d)) (k : P.rt d) : SD K B (tRet te) δ P := sd_ret h fun e q => by subst q; exact k
theorem sd_if {Pt : Bool → Prop} (h : ET K B tt δ Pt) (k : ∀ b, Pt b → SD K B (if b = true then t else u) δ P) : SD K B (tIfS tt t u) δ P := fun G H σ D E a b c d => h G H σ E _ fun x G1 H1 px m => by
  have q := k x px G1 H1 σ D (E.at m) (fun δ2 G2 H2 σ2 q e2 E2 => a δ2 G2 H2 σ2 q (m.gg.trans e2) E2) (fun v x G2 H2 q e2 => b v x G2 H2 q (m.gg.trans e2)) (fun δ2 G2 H2 σ2 q e2 => c δ2 G2 H2 σ2 q (m.gg.trans e2)) (fun δ2 G2 H2 σ2 q e2 => d δ2 G2 H2 σ2 q (m.gg.trans e2))
  cases x with
  | true => exact q
  | false => exact q
theorem sd_ifd {x : Bool} (h : ET K B tt δ (· = x)) (k1 : x = true → SD K B t δ P) (k2 : x = false → SD K B u δ P) : SD K B (tIfS tt t u) δ P := sd_if h fun b e => by
  subst e
  cases b with
  | true => exact k1 rfl
  | false => exact k2 rfl
theorem sd_for {wi : TI} {g : TG} {Pd : List PyData → Prop} (hw : WD K B wi δ Pd)
    (hb : ∀ ds, Pd ds → ∃ J : Nat → En → Prop, J 0 δ ∧ (∀ i d δ', ds[i]? = some d → J i δ' → ∃ δ2 is, GD K B g d δ' δ2 is ∧ SD K B tz δ2 ⟨J (i + 1), P.rt, P.nx, J (i + 1)⟩) ∧ (∀ δ', J ds.length δ' → P.nx δ')) : SD K B (tFor wi g tz) δ P := fun G H σ D E a b c d =>
  hw G H σ E _ fun J ds G1 H1 pd m jd => by
    obtain ⟨Jv, j0, js, je⟩ := hb ds pd
    refine ⟨fun i k σ' H' => k = ds.length - i ∧ i ≤ ds.length ∧ ∃ δ' G', Jv i δ' ∧ Ex G1 G' ∧ EnvD K B G' H' σ' δ', ⟨ds.length, by simp, Nat.zero_le _, δ, G1, j0, Ex.refl G1, E.at m⟩, ?_⟩
    rintro i k σ' H' ⟨rfl, hi, δ', G', jv, e1, E'⟩
    have eg : Ex G1 H' := e1.trans E'.iv.gh
    by_cases hlt : i < ds.length
    · refine .inr ⟨jd.go i H' eg hlt, fun σ2 H2 => i + 1 ≤ ds.length ∧ ∃ δ2 G2, Jv (i + 1) δ2 ∧ Ex G1 G2 ∧ EnvD K B G2 H2 σ2 δ2, fun σ2 H2 p => ⟨ds.length - (i + 1), by omega, rfl, p⟩, fun x H3 y => ?_⟩
      obtain ⟨G3, dd, m3, hd, rx⟩ := jd.yld i H' x H3 eg hlt y B G' e1 E'.iv
      obtain ⟨δ2, is, hg, hs⟩ := js i dd δ' hd jv
      refine hg G3 H3 σ' x (E'.at m3) rx _ fun σ2 E2 _ => hs G3 H3 σ2 _ E2 (fun δ4 G4 H4 σ4 q e4 E4 => ?_) (fun v z G4 H4 q e4 => ?_) (fun δ4 G4 H4 σ4 q e4 E4 => ?_) (fun δ4 G4 H4 σ4 q e4 E4 => ?_)
      · exact ⟨hlt, δ4, G4, q, (e1.trans m3.gg).trans e4, E4⟩
      · exact b v z G4 H4 q (((m.gg.trans e1).trans m3.gg).trans e4)
      · exact a δ4 G4 H4 σ4 q (((m.gg.trans e1).trans m3.gg).trans e4) E4
      · exact ⟨hlt, δ4, G4, q, (e1.trans m3.gg).trans e4, E4⟩
    · have e : i = ds.length := by omega
      subst e
      exact .inl ⟨jd.stop H' eg, a δ' G' H' σ' (je δ' jv) (m.gg.trans e1) E'⟩
theorem sd_ford {wi : TI} {g : TG} {ds : List PyData} (J : Nat → En → Prop) (hw : WD K B wi δ (· = ds)) (h0 : J 0 δ) (hs : ∀ i d δ', ds[i]? = some d → J i δ' → ∃ δ2 is, GD K B g d δ' δ2 is ∧ SD K B tz δ2 ⟨J (i + 1), P.rt, P.nx, J (i + 1)⟩) (hd : ∀ δ', J ds.length δ' → P.nx δ') :
    SD K B (tFor wi g tz) δ P := sd_for hw fun es e => by subst e; exact ⟨J, h0, hs, hd⟩
theorem sd_rng1 {ta : TA} {j : Nat} {n : Int} (J : Nat → En → Prop) (hw : EA K B ta δ (· = [.int n])) (hn : -(2 ^ 62) ≤ n ∧ n < 2 ^ 62) (h0 : J 0 δ) (hs : ∀ (i : Nat) δ', (i : Int) < n → J i δ' → SD K B tz (δ'.set j (.sh (.int (i : Int)))) ⟨J (i + 1), P.rt, P.nx, J (i + 1)⟩) (hd : ∀ δ', J n.toNat δ' → P.nx δ') : SD K B (tFor (iRng1 ta) (gName j) tz) δ P := by
  refine sd_ford J (wd_rng1 hw hn.1 hn.2) h0 (fun i d δ' hi h => ?_) (fun δ' h => hd δ' (by rw [rngD_len] at h; exact h))
  have hl := (List.getElem?_eq_some_iff.mp hi).1
  rw [rngD_len] at hl
  rw [rngD_get hl] at hi
  cases hi
  refine ⟨_, _, gd_name, ?_⟩
  rw [Int.zero_add]
  exact hs i δ' (by omega) h
theorem sd_rng2 {ta : TA} {j : Nat} {a n : Int} (J : Nat → En → Prop) (hw : EA K B ta δ (· = [.int a, .int n])) (hn : -(2 ^ 62) ≤ a ∧ a < 2 ^ 62 ∧ -(2 ^ 62) ≤ n ∧ n < 2 ^ 62) (h0 : J 0 δ) (hs : ∀ (i : Nat) δ', a + (i : Int) < n → J i δ' → SD K B tz (δ'.set j (.sh (.int (a + (i : Int))))) ⟨J (i + 1), P.rt, P.nx, J (i + 1)⟩) (hd : ∀ δ', J (n - a).toNat δ' → P.nx δ') : SD K B (tFor (iRng2 ta) (gName j) tz) δ P := by
  refine sd_ford J (wd_rng2 hw hn) h0 (fun i d δ' hi h => ?_) (fun δ' h => hd δ' (by rw [rngD_len] at h; exact h))
  have hl := (List.getElem?_eq_some_iff.mp hi).1
  rw [rngD_len] at hl
  rw [rngD_get hl] at hi
  cases hi
  exact ⟨_, _, gd_name, hs i δ' (by omega) h⟩
theorem ed_ixOw {i : Nat} {ds : List PyData} {P : PyData → Prop} {Pi : PyData → Prop} (hi : δ[i]? = some (.ow ds)) (hj : ED K B tb δ Pi) (hp : ∀ x, Pi x → ∃ j d, x = .int j ∧ atI ds j = some d ∧ P d) : ED K B (tOp (rIxL K) (tVar i) tb) δ P := fun G H σ E Q q => by
  obtain ⟨l, vs, e1, _, e3, _, e5, r⟩ := E.ok i _ hi
  refine ⟨.ref l, e1, hj G H σ E _ fun w x G2 H2 px m2 rx => ?_⟩
  obtain ⟨j, d, rfl, h, pd⟩ := hp x px
  rw [rx.i]
  unfold atI at h
  cases e : ixN ds.length j with
  | none => rw [e] at h; cases h
  | some k =>
    rw [e] at h
    obtain ⟨v, h1, h2⟩ := (r.mono m2.gg).get (show ds[k]? = some d from h)
    exact ⟨l, vs, j, v, rfl, rfl, sq_of (m2.hh l _ e5 e3), (by unfold atI; rw [r.length, e]; exact h1), q v d G2 H2 pd m2 h2⟩
def rLenQ (K : PySem.W.Frag) : List V → Hp → VK → Prop := fun xs H Q => ∃ p ys, xs = [.ref p] ∧ (SqL K H p ys ∨ SqT K H p ys) ∧ Q (.int ys.length) H
theorem ed_lenOw {i : Nat} {ds : List PyData} (hi : δ[i]? = some (.ow ds)) : ED K B (tCB (rLenQ K) (tCons (tVar i) tNil)) δ (· = .int (ds.length : Int)) := fun G H σ E Q q => by
  obtain ⟨l, vs, e1, _, e3, _, e5, r⟩ := E.ok i _ hi
  exact ⟨.ref l, e1, l, vs, rfl, .inl (sq_of e5), q _ _ G H rfl (Gm.refl E.iv.gh) (by rw [r.length]; exact .int _)⟩
theorem ed_ixFz {i : Nat} {ns : List Int} {j : Nat} {z : Int} (hi : δ[i]? = some (.fz ns)) (hj : ED K B tb δ (· = .int (j : Int))) (h : ns[j]? = some z) : ED K B (tOp (rIxL K) (tVar i) tb) δ (· = .int z) := fun G H σ E Q q => by
  obtain ⟨a, e1, r⟩ := E.ok i _ hi
  refine ⟨.ref a, e1, hj G H σ E _ fun w x G2 H2 px m2 rx => ?_⟩
  subst px
  rw [rx.i]
  exact ⟨a, ns.map V.int, j, .int z, rfl, rfl, ex_l (m2.gg.trans m2.gh) r, atI_nat (by rw [List.getElem?_map, h]; rfl), q _ _ G2 H2 rfl m2 (.int z)⟩
theorem ed_lenFz {i : Nat} {ns : List Int} (hi : δ[i]? = some (.fz ns)) : ED K B (tCB (rLenQ K) (tCons (tVar i) tNil)) δ (· = .int (ns.length : Int)) := fun G H σ E Q q => by
  obtain ⟨a, e1, r⟩ := E.ok i _ hi
  exact ⟨.ref a, e1, a, ns.map V.int, rfl, .inl (ex_l E.iv.gh r), q _ _ G H rfl (Gm.refl E.iv.gh) (by rw [List.length_map]; exact .int _)⟩
theorem cd_lenL {ds : List PyData} : CD K (rLenQ K) [.list ds] (· = .int (ds.length : Int)) := fun B G H vs I r Q q => by
  cases r with
  | cons r rs =>
    cases rs
    obtain ⟨a, xs, rfl, ha, rs⟩ := r.l
    exact ⟨a, xs, rfl, .inl (sq_of (I.gh _ _ ha)), q _ _ G H rfl (Gm.refl I.gh) (by rw [rs.length]; exact .int _)⟩
theorem cd_lenT {ds : List PyData} : CD K (rLenQ K) [.tuple ds] (· = .int (ds.length : Int)) := fun B G H vs I r Q q => by
  cases r with
  | cons r rs =>
    cases rs
    obtain ⟨a, xs, rfl, ha, rs⟩ := r.t
    exact ⟨a, xs, rfl, .inr (ex_t I.gh ha), q _ _ G H rfl (Gm.refl I.gh) (by rw [rs.length]; exact .int _)⟩
theorem cd_sum {ns : List Int} : CD K (rSum K) [.list (ns.map PyData.int)] (· = .int ns.sum) := fun B G H vs I r Q q => by
  cases r with
  | cons r rs =>
    cases rs
    obtain ⟨a, xs, rfl, ha, rs⟩ := r.l
    rw [rs.ints] at ha
    exact ⟨a, ns, rfl, sq_of (I.gh _ _ ha), q _ _ G H rfl (Gm.refl I.gh) (.int _)⟩
theorem cd_all {bs : List Bool} : CD K (rAll K) [.list (bs.map PyData.bool)] (· = .bool (bs.all id)) := fun B G H vs I r Q q => by
  cases r with
  | cons r rs =>
    cases rs
    obtain ⟨a, xs, rfl, ha, rs⟩ := r.l
    rw [rs.bools] at ha
    exact ⟨a, bs, rfl, sq_of (I.gh _ _ ha), q _ _ G H rfl (Gm.refl I.gh) (.bl _)⟩
def rListQ (K : PySem.W.Frag) : List V → Hp → VK → Prop := fun xs H Q => ∃ p ys, xs = [.ref p] ∧ (SqL K H p ys ∨ SqT K H p ys) ∧ ∀ l, H l = none → Q (.ref l) (upd H l (.lst ys))
def rTupQ (K : PySem.W.Frag) : List V → Hp → VK → Prop := fun xs H Q => ∃ p ys, xs = [.ref p] ∧ ((SqL K H p ys ∧ ∀ l, H l = none → Q (.ref l) (upd H l (.tup ys))) ∨ (SqT K H p ys ∧ Q (.ref p) H))
theorem g_none (I : Iv B G H) {l : Addr} (h : H l = none) : G l = none := by
  cases e : G l with
  | none => rfl
  | some o => rw [I.gh l o e] at h; cases h
theorem cl_listL {ds : List PyData} : CL K (rListQ K) [.list ds] (· = ds) := fun B G H vs I r Q q => by
  cases r with
  | cons r rs =>
    cases rs
    obtain ⟨a, xs, rfl, ha, rs⟩ := r.l
    exact ⟨a, xs, rfl, .inl (sq_of (I.gh _ _ ha)), fun l hl => q l xs ds G _ rfl (Gm.newH I hl) hl (g_none I hl) upd_same rs⟩
theorem cl_listT {ds : List PyData} : CL K (rListQ K) [.tuple ds] (· = ds) := fun B G H vs I r Q q => by
  cases r with
  | cons r rs =>
    cases rs
    obtain ⟨a, xs, rfl, ha, rs⟩ := r.t
    exact ⟨a, xs, rfl, .inr (ex_t I.gh ha), fun l hl => q l xs ds G _ rfl (Gm.newH I hl) hl (g_none I hl) upd_same rs⟩
theorem cd_tupL {ds : List PyData} : CD K (rTupQ K) [.list ds] (· = .tuple ds) := fun B G H vs I r Q q => by
  cases r with
  | cons r rs =>
    cases rs
    obtain ⟨a, xs, rfl, ha, rs⟩ := r.l
    exact ⟨a, xs, rfl, .inl ⟨sq_of (I.gh _ _ ha), fun l hl => by
      have m := Gm.new (o := .tup xs) I hl
      exact q _ _ _ _ rfl m (.tup upd_same (rs.mono m.gg))⟩⟩
theorem cd_tupT {ds : List PyData} : CD K (rTupQ K) [.tuple ds] (· = .tuple ds) := fun B G H vs I r Q q => by
  cases r with
  | cons r rs =>
    cases rs
    obtain ⟨a, xs, rfl, ha, rs⟩ := r.tH
    exact ⟨a, xs, rfl, .inr ⟨st_of (I.gh _ _ ha), q _ _ G H rfl (Gm.refl I.gh) (.tup ha rs)⟩⟩
def rInt1 : List V → Hp → VK → Prop := fun xs H Q => (∃ i, xs = [.int i] ∧ Q (.int i) H) ∨ ∃ k, xs = [.bl k] ∧ Q (.int (if k then 1 else 0)) H
theorem cd_int {i : Int} : CD K rInt1 [.int i] (· = .int i) := fun B G H vs I r Q q => by
  cases r with
  | cons r rs =>
    cases rs
    rw [r.i]
    exact .inl ⟨i, rfl, q _ _ G H rfl (Gm.refl I.gh) (.int _)⟩
def rMin2 : List V → Hp → VK → Prop := fun xs H Q => ∃ i j, xs = [.int i, .int j] ∧ Q (.int (if j < i then j else i)) H
theorem cd_min2 {i j : Int} : CD K rMin2 [.int i, .int j] (· = .int (if j < i then j else i)) := fun B G H vs I r Q q => by
  cases r with
  | cons r rs =>
    cases rs with
    | cons r2 rs =>
      cases rs
      rw [r.i, r2.i]
      exact ⟨i, j, rfl, q _ _ G H rfl (Gm.refl I.gh) (.int _)⟩
theorem inV_ints {i : Int} : ∀ {ns : List Int}, inV (.int i) (ns.map V.int) = decide (i ∈ ns)
  | [] => by simp [inV]
  | n :: ns => by
    have ih := inV_ints (i := i) (ns := ns)
    unfold inV at ih ⊢
    rw [List.map_cons, List.any_cons, ih]
    show ((n == i) || decide (i ∈ ns)) = decide (i ∈ n :: ns)
    by_cases h : n = i
    · subst h; simp
    · have h2 : ¬ i = n := fun e => h e.symm
      by_cases h3 : i ∈ ns
      · simp [h, h3]
      · simp [h, h2, h3]
theorem flat_ints : ∀ {ns : List Int}, (ns.map V.int).all flatV = true
  | [] => rfl
  | n :: ns => by rw [List.map_cons, List.all_cons, flat_ints]; rfl
theorem rd_inL {neg : Bool} {i : Int} {ns : List Int} : RD K (rIn K neg) (.int i) (.list (ns.map PyData.int)) (· = .bool (if neg then !decide (i ∈ ns) else decide (i ∈ ns))) := fun B G H x y I rx ry Q q => by
  obtain ⟨a, xs, rfl, ha, rs⟩ := ry.l
  rw [rs.ints] at ha
  rw [rx.i]
  refine ⟨a, _, rfl, .inl (sq_of (I.gh _ _ ha)), rfl, flat_ints, ?_⟩
  rw [inV_ints]
  exact q _ _ G H rfl (Gm.refl I.gh) (.bl _)
theorem rd_inT {neg : Bool} {i : Int} {ns : List Int} : RD K (rIn K neg) (.int i) (.tuple (ns.map PyData.int)) (· = .bool (if neg then !decide (i ∈ ns) else decide (i ∈ ns))) := fun B G H x y I rx ry Q q => by
  obtain ⟨a, xs, rfl, ha, rs⟩ := ry.t
  rw [rs.ints] at ha
  rw [rx.i]
  refine ⟨a, _, rfl, .inr (ex_t I.gh ha), rfl, flat_ints, ?_⟩
  rw [inV_ints]
  exact q _ _ G H rfl (Gm.refl I.gh) (.bl _)
theorem el_cat {Pa Pb : List PyData → Prop} (ha : ED K B ta δ (fun d => ∃ ds, Pa ds ∧ d = .list ds)) (hb : ED K B tb δ (fun d => ∃ ds, Pb ds ∧ d = .list ds)) (hz : ∀ x y, Pa x → Pb y → x.length + y.length ≤ 90000) :
    EL K B (tOp rCat ta tb) δ (fun es => ∃ x y, Pa x ∧ Pb y ∧ es = x ++ y) := fun G H σ E Q q =>
  ha G H σ E _ fun v d G1 H1 pd m1 r1 => hb G1 H1 σ (E.at m1) _ fun w e G2 H2 pe m2 r2 => by
    obtain ⟨x, px, rfl⟩ := pd
    obtain ⟨y, py, rfl⟩ := pe
    obtain ⟨a, xs, rfl, ha, rx⟩ := (r1.mono m2.gg).l
    obtain ⟨b, ys, rfl, hb', ry⟩ := r2.l
    have I2 := (E.at m1).iv.at m2
    have mm := m1.trans m2 E.iv
    refine ⟨a, b, xs, ys, rfl, rfl, I2.gh _ _ ha, I2.gh _ _ hb', sz_of (by rw [rx.length, ry.length]; have := hz x y px py; omega), fun p hp => ?_⟩
    exact q p _ _ G2 _ ⟨x, y, px, py, rfl⟩ (mm.trans (Gm.newH I2 hp) E.iv) (back E.iv mm hp) (g_none I2 hp) upd_same (rx.append ry)
def cutD (ds : List PyData) (lo hi : Option Int) : List PyData := (ds.drop (HT.sIx ds.length 0 lo)).take (HT.sIx ds.length ds.length hi - HT.sIx ds.length 0 lo)
def EO (K : PySem.W.Frag) (B : Base) (to : TO) (δ : En) (P : Option Int → Prop) : Prop := ∀ G H σ, EnvD K B G H σ δ → ∀ Q : Option Int → Hp → Prop, (∀ o G' H', P o → Gm B G H G' H' → Q o H') → to σ H Q
theorem eo_none : EO K B tNoPart δ (· = none) := fun G H σ E Q q => q none G H rfl (Gm.refl E.iv.gh)
theorem eo_some {P : Int → Prop} (h : ED K B te δ (fun d => ∃ i, P i ∧ d = .int i)) : EO K B (tPart te) δ (fun o => ∃ i, P i ∧ o = some i) := fun G H σ E Q q => h G H σ E _ fun v d G1 H1 pd m r => by
  obtain ⟨i, p, rfl⟩ := pd
  rw [r.i]
  exact ⟨i, rfl, q _ G1 H1 ⟨i, p, rfl⟩ m⟩
theorem el_sl {tl th : TO} {ds : List PyData} {Pl Ph : Option Int → Prop} (h : ED K B te δ (· = .list ds)) (h1 : EO K B tl δ Pl) (h2 : EO K B th δ Ph) : EL K B (tSl (rSlL K) te tl th) δ (fun es => ∃ lo hi, Pl lo ∧ Ph hi ∧ es = cutD ds lo hi) := fun G H σ E Q q =>
  h G H σ E _ fun v d G1 H1 pd m1 r1 => h1 G1 H1 σ (E.at m1) _ fun lo G2 H2 pl m2 => h2 G2 H2 σ ((E.at m1).at m2) _ fun hi G3 H3 ph m3 => by
    subst pd
    obtain ⟨a, xs, rfl, ha, rx⟩ := ((r1.mono m2.gg).mono m3.gg).l
    have I3 := ((E.at m1).at m2).iv.at m3
    have mm := (m1.trans m2 E.iv).trans m3 E.iv
    refine ⟨a, xs, rfl, sq_of (I3.gh _ _ ha), fun p hp => q p _ _ G3 _ ⟨lo, hi, pl, ph, rfl⟩ (mm.trans (Gm.newH I3 hp) E.iv) (back E.iv mm hp) (g_none I3 hp) upd_same ?_⟩
    unfold cutV cutD
    rw [rx.length]
    exact (rx.drop _).take _

def SpD (K : PySem.W.Frag) (pre : List PyData → Prop) (post : List PyData → PyData → Prop) : Sp := fun vs H Q _ => ∃ G a ws ds, vs = .ref a :: ws ∧ I0 G H ∧ G a = none ∧ DrOk H a ∧ RpA K G ws ds ∧ pre ds ∧
  ∀ v d G' H', post ds d → Iv ⟨G, H, (· = a)⟩ G' H' → Rp K G' v d → Q v H'
theorem Iv.pure (e : I0 G H) : Iv ⟨G, H, fun _ => False⟩ G H := ⟨e.ex, Ex.refl G, fun _ _ h _ => h, fun _ _ h => h, fun b m => ⟨(e.tb b (m.elim (fun z => z.elim) id)).1, m, fun z => z.elim, fun z => (e.tb b z).2⟩⟩
theorem Iv.draw {a : Addr} (e : I0 G H) (g : G a = none) (h : DrOk H a) : Iv ⟨G, H, (· = a)⟩ G H := ⟨e.ex, Ex.refl G, fun _ _ h _ => h, fun _ _ h => h, fun b m => ⟨m.elim (fun z => by rw [show b = a from z]; exact g) fun z => (e.tb b z).1, m, fun z => by rw [show b = a from z]; exact h, fun z => (e.tb b z).2⟩⟩
theorem Tb.nodr {H : Hp} {b : Addr} (h : Tb.ok H b) (d : DrOk H b) : False := by
  obtain ⟨n, ns, e, _⟩ := d
  obtain ⟨ps, z⟩ := Tb.nol h e
  cases z
theorem Iv.gmP (I : Iv B G H) (J : Iv ⟨G, H, fun _ => False⟩ G' H') : Gm B G H G' H' := ⟨J.g0, J.gh, fun b o e m => J.h0 b o e fun z => z.elim id fun z => m (.inr z), J.hid, fun b m q => ⟨m, fun z => by
    obtain ⟨n, ns, e, r⟩ := q.d z
    exact ⟨n, ns, J.h0 b _ e fun y => y.elim id fun y => Tb.nodr (q.t y) (q.d z), r⟩, fun z => (J.dr b (.inr z)).2.t z⟩⟩
theorem Iv.gmD {a : Addr} (I : Iv B G H) (ma : B.dm a) (J : Iv ⟨G, H, (· = a)⟩ G' H') : Gm B G H G' H' := ⟨J.g0, J.gh, fun b o e m => J.h0 b o e fun z => z.elim (fun z => m (.inl (by have z : b = a := z; rw [z]; exact ma))) fun z => m (.inr z), J.hid, fun b m q => ⟨m, fun z => by
    by_cases e : b = a
    · exact (J.dr b (.inl e)).2.d e
    · obtain ⟨n, ns, e2, r⟩ := q.d z
      exact ⟨n, ns, J.h0 b _ e2 fun y => y.elim e fun y => Tb.nodr (q.t y) (q.d z), r⟩, fun z => (J.dr b (.inr z)).2.t z⟩⟩
theorem ed_callD {pre : List PyData → Prop} {post : List PyData → PyData → Prop} {X : XK} {ta : TA} {Pa : List PyData → Prop} {i : Nat} (hi : δ[i]? = some .dr) (h : EA K B ta δ Pa) (hp : ∀ ds, Pa ds → pre ds) : ED K B (tCall (SpD K pre post) [] X (tCons (tVar i) ta)) δ (fun d => ∃ ds, Pa ds ∧ post ds d) := fun G H σ E Q q => by
  obtain ⟨a, e1, ma⟩ := E.ok i _ hi
  refine ⟨.ref a, e1, h G H σ E _ fun vs ds G1 H1 pd m r => ?_⟩
  have I1 := E.iv.at m
  show SpD K pre post ((.ref a :: vs) ++ []) H1 Q X
  rw [List.append_nil]
  exact ⟨G1, a, vs, ds, rfl, I1.i0, (I1.dr a (.inl ma)).1, (I1.dr a (.inl ma)).2.d ma, r, hp ds pd, fun v d G2 H2 po J rd => q v d G2 H2 ⟨ds, pd, po⟩ (m.trans (I1.gmD ma J) E.iv) rd⟩
theorem ed_callDd {pre : List PyData → Prop} {post : List PyData → PyData → Prop} {X : XK} {ta : TA} {ds : List PyData} {i : Nat} (hi : δ[i]? = some .dr) (h : EA K B ta δ (· = ds)) (hp : pre ds) : ED K B (tCall (SpD K pre post) [] X (tCons (tVar i) ta)) δ (post ds) := (ed_callD hi h fun es e => by rw [e]; exact hp).imp fun d ⟨es, e, p⟩ => by rw [← e]; exact p
def stD (N : List Str) (ds : List PyData) : En := ds.map Sl.sh ++ List.replicate (N.length - ds.length) Sl.no
theorem env_start {N : List Str} {vs : List V} {ds : List PyData} (I : Iv B G H) (r : RpA K G vs ds) (hl : ds.length ≤ N.length) : EnvD K B G H (L2.start N vs) (stD N ds) := by
  have hlen := r.length
  refine ⟨I, ?_, fun i s e => ?_, fun i j es fs a hij h1 h2 h3 h4 => ?_⟩
  · unfold L2.start stD
    rw [List.length_append, List.length_append, List.length_map, List.length_map, List.length_replicate, List.length_replicate, hlen]
  · unfold stD at e
    unfold L2.start
    rw [List.getElem?_append] at e ⊢
    rw [List.length_map] at e ⊢
    by_cases hi : i < ds.length
    · rw [if_pos hi] at e
      rw [if_pos (by omega)]
      rw [List.getElem?_map] at e ⊢
      cases hd : ds[i]? with
      | none => rw [hd] at e; cases e
      | some d =>
        rw [hd] at e
        cases e
        obtain ⟨v, q1, q2⟩ := r.get hd
        rw [q1]
        exact ⟨v, rfl, q2⟩
    · rw [if_neg hi] at e
      rw [List.getElem?_replicate] at e
      split at e
      · cases e; trivial
      · cases e
  · unfold stD at h1
    rw [List.getElem?_append, List.length_map] at h1
    split at h1
    · rw [List.getElem?_map] at h1
      cases hd : ds[i]? with
      | none => rw [hd] at h1; cases h1
      | some d => rw [hd] at h1; cases h1; exact h3.elim
    · rw [List.getElem?_replicate] at h1
      split at h1
      · cases h1; exact h3.elim
      · cases h1
theorem env_startD {N : List Str} {vs : List V} {ds : List PyData} {a : Addr} (I : Iv B G H) (ma : B.dm a) (r : RpA K G vs ds) (hl : ds.length + 1 ≤ N.length) : EnvD K B G H (L2.start N (.ref a :: vs)) (.dr :: stD N.tail ds) := by
  cases N with
  | nil => simp at hl
  | cons x N =>
    have E := env_start (N := N) I r (by simpa using hl)
    have e1 : L2.start (x :: N) (.ref a :: vs) = some (.ref a) :: L2.start N vs := by
      unfold L2.start
      simp
    rw [e1]
    refine ⟨I, by rw [List.length_cons, List.length_cons, E.len]; rfl, fun i s e => ?_, fun i j es fs b hij h1 h2 h3 h4 => ?_⟩
    · cases i with
      | zero => cases e; exact ⟨a, rfl, ma⟩
      | succ i => exact E.ok i s e
    · cases i with
      | zero => cases h1; exact h3.elim
      | succ i =>
        cases j with
        | zero => cases h2; exact h4.elim
        | succ j => exact E.ne i j es fs b (fun q => hij (by rw [q])) h1 h2 h3 h4
theorem spD_len {pre : List PyData → Prop} {post : List PyData → PyData → Prop} {n : Nat} {vs : List V} {Q : VK} {X : XK} (hl : ∀ ds, pre ds → ds.length + 1 = n) (h : SpD K pre post vs H Q X) : vs.length = n := by
  obtain ⟨G, a, ws, ds, rfl, e, g, dr, r, p, k⟩ := h
  rw [List.length_cons, r.length, hl ds p]
end
end DL
namespace DL
variable [Tb]
open PySem PySem.Spec PyProof.Rows L2 Evl
structure Blt (mg : Str → Option Value) : Prop where
  len : mg "len" = none
  range : mg "range" = none
  min : mg "min" = none
  max : mg "max" = none
  int : mg "int" = none
  list : mg "list" = none
  tuple : mg "tuple" = none
  sum : mg "sum" = none
  all : mg "all" = none
  any : mg "any" = none
  sorted : mg "sorted" = none
  isinstance : mg "isinstance" = none
  enumerate : mg "enumerate" = none
  repr : mg "repr" = none
  str : mg "str" = none
  set : mg "set" = none
  bool : mg "bool" = none
  ValueError : mg "ValueError" = none
structure Cal (P : Program) (w : World) (K : PySem.W.Frag) (mg : Str → Option Value) (base : Heap) (x : Str) (k : Nat) (ps : List Str) (sp : Sp) : Prop where
  ex : ∃ f fd, mg x = some (.ref f) ∧ PySem.W.keepIn K (.ref f) = true ∧ Binds K fd ps [] ∧ FnOk P w K mg base CX0 k f fd ps sp
theorem pe_cal {X : Cx} {x : Str} {k j : Nat} {ps : List Str} {sp : Sp} {p pos : Pos} {e : Expr} {es : List Expr} {t : TA} (C : Cal X.prog X.w X.K X.mg X.base x k ps sp) (hr : Room j X.A) (hj : k ≤ j) (hg : Gl X x)
    (ha : PA X (e :: es) t) (hdb : (x == ("__debug__" : Str)) = false := by decide) (he : starEach (e :: es) X.env = (false, eval e X.env) :: starEach es X.env := by rfl) (hpl : (backTo pos (starEach es X.env)).any (·.1) = false := by rfl) :
    PE X (.Call (.Name x p) (e :: es) [] pos) (tCall sp [] E0 t) := by
  obtain ⟨f, fd, h1, h2, h3, h4⟩ := C.ex
  exact pe_call h4 (hr.mono hj) hg h1 h2 h3 .nil pass0 ha hdb he hpl
def rNotNQ : R2 := fun x y H Q => y = .non ∧ Q (.bl (!decide (x = .non))) H
abbrev FnP (K : PySem.W.Frag) (x qual : Str) (st : Stmt) (f : Addr) (fd : FuncData) : Prop := FunD K x qual (defArgs st) (defBody st) (defScope st) [] [] f fd
def isN : PyData → Bool
  | .none => true
  | _ => false
section
variable {K : PySem.W.Frag} {B : Base} {δ : En} {te : TE}
theorem rd_notN {a : PyData} : RD K rNotNQ a .none (· = .bool (!isN a)) := fun B G H x y I rx ry Q q => by
  rw [ry.n]
  refine ⟨rfl, ?_⟩
  have e : decide (x = .non) = isN a := by cases rx <;> simp [isN]
  rw [e]
  exact q _ _ G H rfl (Gm.refl I.gh) (.bl _)
theorem ed_neg {i : Int} (h : ED K B te δ (· = .int i)) : ED K B (tUn (rU fun i => .int (-i)) te) δ (· = .int (-i)) := fun G H σ E Q q => h G H σ E _ fun v d G1 H1 e m r => by
  subst e
  rw [r.i]
  exact ⟨i, rfl, q _ _ G1 H1 rfl m (.int _)⟩
end
section
variable {P : Program} {w : World} {K : PySem.W.Frag} {mg : Str → Option Value} {base : Heap}
end
end DL
namespace DL
variable [Tb]
open PySem PySem.Spec PyProof.Rows L2 Evl
section
variable {K : PySem.W.Frag} {B : Base} {δ : En} {te ta tb : TE} {tt : TT}
theorem el_lcx {α : Type} [Inhabited α] {wi : TI} {g : TG} {vs : List Nat} (xs : List α) (enc : α → PyData) (inj : ∀ x y, enc x = enc y → x = y) (p : α → Bool) (f : α → PyData) (hw : WD K B wi δ (· = xs.map enc))
    (hb : ∀ x, x ∈ xs → ∃ δ2 is, GD K B g (enc x) (wipeD δ vs) δ2 is ∧ (∀ i ∈ is, i ∈ vs) ∧ ET K B tt δ2 (· = p x) ∧ (p x = true → ED K B te δ2 (· = f x))) (hn : xs.length ≤ 50000) :
    EL K B (tLc wi g tt te vs) δ (· = (xs.filter p).map f) := by
  let dec : PyData → α := fun d => by
    classical
    exact if h : ∃ x, enc x = d then Classical.choose h else default
  have hd : ∀ x, dec (enc x) = x := fun x => by
    have h : ∃ y, enc y = enc x := ⟨x, rfl⟩
    have e : dec (enc x) = Classical.choose h := dif_pos h
    rw [e]
    exact inj _ _ (Classical.choose_spec h)
  have e : ((xs.map enc).filter (fun d => p (dec d))).map (fun d => f (dec d)) = (xs.filter p).map f := by
    rw [List.filter_map, List.map_map]
    have e1 : ((fun d => p (dec d)) ∘ enc) = p := funext fun x => by show p (dec (enc x)) = p x; rw [hd]
    have e2 : ((fun d => f (dec d)) ∘ enc) = f := funext fun x => by show f (dec (enc x)) = f x; rw [hd]
    rw [e1, e2]
  refine (el_lcd (fun d => p (dec d)) (fun d => f (dec d)) hw (fun d hm => ?_) (by rw [List.length_map]; exact hn)).imp fun es q => by rw [q, e]
  obtain ⟨x, hx, rfl⟩ := List.mem_map.mp hm
  obtain ⟨δ2, is, h1, h2, h3, h4⟩ := hb x hx
  refine ⟨δ2, is, h1, h2, by rw [hd]; exact h3, fun q => ?_⟩
  rw [hd] at q ⊢
  exact h4 q
theorem el_lcr {wi : TI} {g : TG} {vs : List Nat} {lo : Int} {n : Nat} (p : Nat → Bool) (f : Nat → PyData) (hw : WD K B wi δ (· = rngD lo n))
    (hb : ∀ i : Nat, i < n → ∃ δ2 is, GD K B g (.int (lo + (i : Int))) (wipeD δ vs) δ2 is ∧ (∀ i ∈ is, i ∈ vs) ∧ ET K B tt δ2 (· = p i) ∧ (p i = true → ED K B te δ2 (· = f i))) (hn : n ≤ 50000) :
    EL K B (tLc wi g tt te vs) δ (· = ((List.range n).filter p).map f) :=
  el_lcx (List.range n) (fun i : Nat => PyData.int (lo + (i : Int))) (fun x y e => by injection e with e; omega) p f hw (fun i hi => hb i (List.mem_range.mp hi)) (by rw [List.length_range]; exact hn)
theorem el_mapx {α : Type} [Inhabited α] {wi : TI} {g : TG} {vs : List Nat} (xs : List α) (enc : α → PyData) (inj : ∀ x y, enc x = enc y → x = y) (f : α → PyData) (hw : WD K B wi δ (· = xs.map enc))
    (hb : ∀ x, x ∈ xs → ∃ δ2 is, GD K B g (enc x) (wipeD δ vs) δ2 is ∧ (∀ i ∈ is, i ∈ vs) ∧ ED K B te δ2 (· = f x)) (hn : xs.length ≤ 50000) : EL K B (tLc wi g tYes te vs) δ (· = xs.map f) :=
  (el_lcx xs enc inj (fun _ => true) f hw (fun x hx => by
    obtain ⟨δ2, is, h1, h2, h3⟩ := hb x hx
    exact ⟨δ2, is, h1, h2, et_yes, fun _ => h3⟩) hn).imp fun es q => by rw [q, List.filter_eq_self.mpr (fun _ _ => rfl)]
theorem el_mapr {wi : TI} {g : TG} {vs : List Nat} {lo : Int} {n : Nat} (f : Nat → PyData) (hw : WD K B wi δ (· = rngD lo n))
    (hb : ∀ i : Nat, i < n → ∃ δ2 is, GD K B g (.int (lo + (i : Int))) (wipeD δ vs) δ2 is ∧ (∀ i ∈ is, i ∈ vs) ∧ ED K B te δ2 (· = f i)) (hn : n ≤ 50000) : EL K B (tLc wi g tYes te vs) δ (· = (List.range n).map f) :=
  (el_lcr (fun _ => true) f hw (fun x hx => by
    obtain ⟨δ2, is, h1, h2, h3⟩ := hb x hx
    exact ⟨δ2, is, h1, h2, et_yes, fun _ => h3⟩) hn).imp fun es q => by rw [q, List.filter_eq_self.mpr (fun _ _ => rfl)]
theorem int_inj (x y : Int) (e : PyData.int x = PyData.int y) : x = y := by injection e
end
end DL
namespace DL
variable [Tb]
open PySem PySem.Spec PyProof.Rows L2 Evl
section
variable {K : PySem.W.Frag} {B : Base} {G H G' H' : Hp} {δ : En} {te ta tb : TE} {t : TS}
end
end DL
namespace PySem
open Sem (wp)
theorem my_enum_new1 {v : Value} {o : Obj} {H : Heap → Prop} (B : Begins v o H) : Meets (Builtin.«enumerate.__new__» ⟨[.type "enumerate", v], []⟩) (fun _ R s => H s.heap ∧ R (.ok (.ret (.ref (s.heap.push o).objs.size))) { s with heap := (s.heap.push o).push { cls := .type "enumerate", data := .fields #[.none, .bool false, .ref s.heap.objs.size, rawInt 0, .none, .none] } }) :=
  .of_wp fun prog w A R s h => by
    obtain ⟨hp, g, d, tk, os⟩ := s; obtain ⟨h1, h⟩ := h; have hsub := sub_enumerate
    have q1 : ∀ {A' : Around} {E : Value → Shared → Prop} {Q : Value → Shared → Prop}, Q (.ref hp.objs.size) ⟨hp.push o, g, d, tk, os⟩ → wpAny (model prog w) A' (pyIter v) Q E ⟨hp, g, d, tk, os⟩ := fun q => B.iter prog w _ _ ⟨hp, g, d, tk, os⟩ _ h1 q
    wp_walk using q1; refine wpAny_stack_any fun st => wpAny_pure ?_
    split
    · rename_i c _ _ _ _ _; cases (c == Value.type "enumerate") <;> (wp_walk using q1; exact ⟨_, rfl, h⟩)
    · wp_walk using q1; exact ⟨_, rfl, h⟩
end PySem
namespace PySem
section
variable {prog : Program} {w : World} {A : Around} {E : Value → Shared → Prop} {s : Shared}
theorem my_enum_call {v : Value} {o : Obj} {H : Heap → Prop} {Q : Value → Shared → Prop} (B : Begins v o H) (h1 : H s.heap)
    (h : ∀ h', IsEnum h' (s.heap.objs.size + 1) s.heap.objs.size 0 .none → h'.get? s.heap.objs.size = some o → (∀ b o, s.heap.get? b = some o → h'.get? b = some o) → Q (.ref (s.heap.objs.size + 1)) { s with heap := h' }) : wpAny (model prog w) A (call (.type "enumerate") [v]) Q E s := by
  refine callType_new F.called_enumerate (by decide) (F.typeCall_enumerate_1 _) (F.newCall_enumerate_1 _) (fun obj => F.args_object_init_2 obj _) F.entry_enumerate_new (my_enum_new1 B) ⟨h1, ?_⟩
  have hz : (s.heap.push o).objs.size = s.heap.objs.size + 1 := Heap.size_push ..; show _ ∧ _; rw [hz]
  have he : IsEnum ((s.heap.push o).push { cls := .type "enumerate", data := .fields #[.none, .bool false, .ref s.heap.objs.size, rawInt 0, .none, .none] }) (s.heap.objs.size + 1) s.heap.objs.size 0 .none := by
    have q := Heap.get?_push_size (s.heap.push o) (o := { cls := .type "enumerate", data := .fields #[.none, .bool false, .ref s.heap.objs.size, rawInt 0, .none, .none] }) rfl; rw [hz] at q; exact q
  exact ⟨⟨_, he, rfl⟩, h _ he (Heap.get?_push_of_some _ (Heap.get?_push_size _ B.free)) (fun b o x => Heap.get?_push_of_some _ (Heap.get?_push_of_some _ x))⟩
theorem my_enum_end {e it l : Addr} {i : Nat} {c : Int} {items : Array Value} {old : Value} {Q : Option Value → Shared → Prop} (hh : A.handled = none) (he : IsEnum s.heap e it c old) (hit : s.heap.IsTupleIter it l i) (hl : s.heap.IsTuple l items) (hx : items[i]? = none)
    (hQ : ∀ h', Heap.ExtBut it s.heap h' → Q none { s with heap := h' }) : wpAny (model prog w) A (pyNext (.ref e)) Q E s := by
  have hTy : s.TypeIs (.ref e) "enumerate" := ⟨_, he, rfl⟩; unfold pyNext
  refine wpAny_bind (wpAny_attempt (wpAny_callSpecial?_slot (name := Str.ofString "__next__") hTy F.slot_enumerate_next (wpAny_call_entry F.slot_enumerate_next hTy F.entry_enumerate_next ?_ (F.args_enumerate_next_1 _))))
  show wpAny _ _ (field (.ref e) 2 >>= _) _ _ _; refine wpAny_bind (wpAny_field he rfl (x := .ref it) rfl (wpAny_bind (wpAny_nextOf_tuple_end hh hit hl hx fun h' x he' ⟨o, ho, hc⟩ => ?_)))
  exact wpAny_bind (wpAny_isInstance (T := "StopIteration") (b := true) ⟨o, ho, hc⟩ isSubtype_stop (wpAny_pure (hQ _ he')))
end
end PySem
namespace DL
variable [Tb]
open PySem PySem.Spec PyProof.Rows L2 Evl
def Itet (K : PySem.W.Frag) (a : Addr) : It where
  go := fun i H => ∃ (xs : List V) (x : V), SqT K H a xs ∧ xs[i]? = some x
  yld := fun i H v H' => ∃ T x, v = .ref T ∧ H T = none ∧ H' = upd H T (.tup [.int (i : Nat), x]) ∧ ∀ xs, SqT K H a xs → xs[i]? = some x
  stop := fun i H => ∃ xs : List V, SqT K H a xs ∧ xs.length ≤ i
theorem my_turn_enum {P : Program} {w : World} {K : PySem.W.Frag} {elts : List Expr} {kk : Nat} {tpos : Pos} (a e it : Addr) : Turn P w K (.Tuple elts kk tpos) (Itet K a) [e, it] e (fun i h => (∃ old, IsEnum h e it ((i : Nat) : Int) old) ∧ h.IsTupleIter it a i ∧ e ≠ it) where
  mem := by simp
  obj := fun i h st b hb => by
    obtain ⟨⟨old, he⟩, ⟨o, ho, hc, hd⟩, _⟩ := st
    rcases (show b = e ∨ b = it by simpa using hb) with z | z
    · subst z; exact ⟨_, he, fun v q => by cases q⟩
    · subst z; exact ⟨o, ho, fun v q => by rw [hd] at q; cases q⟩
  keep := fun i h h' st k => ⟨⟨st.1.choose, k e (by simp) _ st.1.choose_spec⟩, st.2.1.at fun o q => k it (by simp) o q, st.2.2⟩
  item := by
    intro X hP hw hK hc i pins s σ H E I hf st hg
    subst hP hw hK
    obtain ⟨⟨old, he⟩, hit, hne⟩ := st; obtain ⟨xs, x, hq, hx⟩ := hg; obtain ⟨its, rv, p, hz⟩ := I.tuple hq
    obtain ⟨u, hu, ru⟩ := rv.get hx
    have pT : s.heap.IsTuple a its.toArray := p
    have hel : e < s.heap.objs.size := Heap.lt_size he
    have hil : it < s.heap.objs.size := by obtain ⟨_, q, _⟩ := hit; exact Heap.lt_size q
    have nai : a ≠ it := fun z => by
      obtain ⟨o1, q1, c1, _⟩ := hit; obtain ⟨o2, q2, c2, _⟩ := pT
      rw [z, q1] at q2; cases q2; rw [c1] at c2; injection c2 with c2; exact absurd c2 (by decide)
    have nae : a ≠ e := fun z => by
      obtain ⟨o2, q2, c2, _⟩ := pT
      rw [z, show s.heap.get? e = some _ from he] at q2; cases q2; injection c2 with c2; exact absurd c2 (by decide)
    have D := Draws.tuple (prog := X.prog) (w := X.w) (A := X.A.in1) (I.ok.hd hc) it a nai its.toArray
    refine wpAny_pyNext_enum_itemD D he ⟨hit, pT⟩ (by have := (List.getElem?_eq_some_iff.mp hu).1; simpa using this) hne (by simp [hne, Ne.symm nae]) fun x' h' tk hx' ho hst' hT hsz hk => ?_
    have ex : x' = u := by
      have q : its[i]? = some x' := by simpa using hx'
      rw [hu] at q; exact (Option.some.inj q).symm
    subst ex
    refine ⟨_, rfl, wpAny_letOwnedTupleGo_enum (s := { s with heap := h', toks := tk + 1 }) ho fun h'' he' sb => ?_⟩
    have hT2 : h''.get? s.heap.objs.size = some { cls := .type "tuple", data := .seq #[.int i tk, x'] } := (sb.2 _ (Nat.ne_of_gt hel)).trans hT
    have new : ObjOk X.prog X.w (upd H s.heap.objs.size (.tup [.int (i : Nat), x])) h'' s.heap.objs.size (.tup [.int (i : Nat), x]) := ⟨(show 2 ≤ sizeLine by decide), [.int i tk, x'], .cons ⟨_, rfl⟩ (.cons ru .nil), ⟨_, hT2, rfl, _, rfl⟩⟩
    have I1 : Inv X pins σ (upd H s.heap.objs.size (.tup [.int (i : Nat), x])) { s with heap := h'', toks := tk + 1 } := I.turnedNew (ch := [e, it]) (fun b ob hb q => (sb.2 b fun z => hb (by simp [z])).trans (hk b ob (fun z => hb (by simp [z])) (fun z => hb (by simp [z])) q)) hf (Nat.le_refl _) new
    refine ⟨.ref s.heap.objs.size, _, I1, rfl, ⟨_, x, rfl, I.hok.fresh (Nat.le_refl _), rfl, fun ys hy => (by rw [I.tuple_inj hy hq]; exact hx)⟩, ⟨⟨x', ?_⟩, hst'.1.at fun o q => (sb.2 it (Ne.symm hne)).trans q, hne⟩, fun b hb => ?_⟩
    · rw [show ((i + 1 : Nat) : Int) = (i : Int) + 1 by omega]; exact he'
    · have hb' : b < s.heap.objs.size := by
        rcases (show b = e ∨ b = it by simpa using hb) with z | z <;> (rw [z]; assumption)
      rw [upd_ne (Nat.ne_of_lt hb')]; exact (hf b hb).1
  done := by
    intro X hP hw hK hc i pins s σ H E I hf st hg
    subst hP hw hK
    obtain ⟨⟨old, he⟩, hit, hne⟩ := st; obtain ⟨xs, hq, hx⟩ := hg; obtain ⟨its, rv, p, hz⟩ := I.tuple hq
    have pT : s.heap.IsTuple a its.toArray := p
    obtain ⟨f0, f1, f2, f3, f4, f5⟩ := hf it (by simp); have hl := rv.length
    refine my_enum_end (I.ok.hd hc) he hit pT (by simp; omega) fun h' eb => ⟨rfl, I.turned (t' := s.toks) (fun b o hb q => eb b o hb q) f0 f1 f3 f4 f5⟩
  self := fun A i s Q E st h => wpAny_pyIter_enum st.1.choose_spec h
def iEnumT (K : PySem.W.Frag) (ta : TA) : TI := fun σ H R => ta σ H fun vs H1 => ∃ a xs, vs = [.ref a] ∧ SqT K H1 a xs ∧ R (Itet K a) H1
theorem pi_enumT {X : Cx} {e : Expr} {ta : TA} {p pos tpos : Pos} {elts : List Expr} {kk : Nat} (hg : Gl X "enumerate") (hm : X.mg "enumerate" = none) (ha : PA X [e] ta) (hs : starEach [e] X.env = [(false, eval e X.env)] := by rfl) : PI X (.Tuple elts kk tpos) (.Call (.Name "enumerate" p) [e] [] pos) (iEnumT X.K ta) := by
  refine ⟨fun pins s σ H R I h => Call_ (ld_blt I hg hm boot_enumerate (PyProof.Rows.callWith_type1 (thn (ha.run pos pins s σ H _ I h) fun us s1 ⟨vs, H1, I1, r1, q1⟩ => ?_) hs rfl))⟩
  obtain ⟨a, xs, ex, hq, q⟩ := q1; subst ex
  cases r1 with
  | cons r rr =>
    cases rr; cases r
    obtain ⟨its, rv, p', hz⟩ := I1.tuple hq
    refine my_enum_call (begins_tuple a its.toArray) p' fun h' he hit hk => wpAny_pyIter_enum he ?_
    have I2 : Inv X pins σ H1 { s1 with heap := h' } := I1.kept (t' := s1.toks) hk
    refine ⟨s1.heap.objs.size + 1, [s1.heap.objs.size + 1, s1.heap.objs.size], _, _, H1, rfl, I2, my_turn_enum a (s1.heap.objs.size + 1) s1.heap.objs.size, ⟨⟨.none, he⟩, ⟨_, hit, rfl, rfl⟩, Nat.succ_ne_self _⟩, fun b hb => ?_, q⟩
    have hle : s1.heap.objs.size ≤ b := by
      rcases (show b = s1.heap.objs.size + 1 ∨ b = s1.heap.objs.size by simpa using hb) with z | z <;> (rw [z]; omega)
    exact I1.fpOk hle (I1.hok.fresh hle)
section
variable {K : PySem.W.Frag} {B : Base} {G : Hp} {δ : En}
theorem jd_enumT {a : Addr} {xs : List V} {ds : List PyData} (h : SqT K G a xs) (r : RpA K G xs ds) : JD K G (Itet K a) (enumD ds) where
  go := fun i H e hi => by
    rw [enumD_len, ← r.length] at hi
    exact ⟨xs, xs[i], ex_t e h, List.getElem?_eq_getElem hi⟩
  stop := fun H e => ⟨xs, ex_t e h, by rw [enumD_len, r.length]; exact Nat.le_refl _⟩
  yld := fun i H x H' e hi y B G1 e1 I => by
    obtain ⟨T, y1, h1, h2, h3, h5⟩ := y
    obtain ⟨d, h6, h7⟩ := r.getV (h5 xs (ex_t e h))
    rw [h1, h3]
    have m := Gm.new (o := .tup [.int (i : Nat), y1]) I h2
    exact ⟨_, _, m, enumD_get h6, .tup upd_same (.cons (.int _) (.one ((h7.mono e1).mono m.gg)))⟩
theorem wd_enumT {ta : TA} {ds : List PyData} (h : EA K B ta δ (· = [.tuple ds])) : WD K B (iEnumT K ta) δ (· = enumD ds) := fun G H σ E R q => h G H σ E _ fun vs es G1 H1 pd m r => by
  subst pd
  cases r with
  | cons r rs =>
    cases rs
    obtain ⟨a, xs, rfl, ha, rs⟩ := r.t
    exact ⟨a, xs, rfl, ex_t m.gh ha, q _ _ G1 H1 rfl m (jd_enumT ha rs)⟩
end
end DL
namespace DL
variable [Tb]
open PySem PySem.Spec PyProof.Rows L2 Evl
def tyN : PyData → String
  | .none => "NoneType"
  | .bool _ => "bool"
  | .int _ => "int"
  | .str _ => "str"
  | .list _ => "list"
  | .tuple _ => "tuple"
  | .dict _ => "dict"
def isTy (n : String) (d : PyData) : Bool := tyN d == n || (n == "int" && tyN d == "bool")
def plainB : PyData → Bool
  | .dict [(.int _, .int _)] => true
  | .dict _ => false
  | _ => true
section
variable {K : PySem.W.Frag} {B : Base} {G H : Hp} {δ : En} {te ta tb : TE}
theorem tyx_of (I : Iv B G H) {v : V} {d : PyData} (hp : plainB d = true) (r : Rp K G v d) : TyX K H v (.type (tyN d)) := by
  cases r with
  | non => exact .base .non
  | bl b => exact .base (.bl b)
  | int i => exact .base (.int i)
  | str x => exact .base (.str x)
  | lst h _ => exact .base (.lst (I.gh _ _ h))
  | tup h _ => exact .base (.tup (I.gh _ _ h))
  | ins _ _ _ => cases hp
  | dct h => exact .base (.dK (I.gh _ _ h))
theorem kit_tab {n : String} (hn : n = "int" ∨ n = "bool" ∨ n = "str" ∨ n = "list" ∨ n = "tuple") {d : PyData} (hp : plainB d = true) : PySem.W.kitOne K (.type (tyN d)) (.type n) = some (isTy n d) := by
  have tab : ∀ t ∈ ["NoneType", "bool", "int", "str", "list", "tuple", "dict"], ∀ m ∈ ["int", "bool", "str", "list", "tuple"], kitB t m = some (t == m || (m == "int" && t == "bool")) := by decide +kernel
  refine kit_ty (tab (tyN d) ?_ n ?_)
  · cases d <;> simp [tyN]
  · rcases hn with rfl | rfl | rfl | rfl | rfl <;> simp
theorem ed_isi {n : String} {d : PyData} (hn : n = "int" ∨ n = "bool" ∨ n = "str" ∨ n = "list" ∨ n = "tuple") (hp : plainB d = true) (h : ED K B te δ (· = d)) : ED K B (tCB (rIsi K) (tCons te (tCons (tC (.ty n)) tNil))) δ (· = .bool (isTy n d)) := fun G H σ E Q q =>
  h G H σ E _ fun v d' G1 H1 e m r => by
    subst e
    exact ⟨v, .ty n, _, _, _, rfl, .ty n, tyx_of (E.iv.at m) hp r, kit_tab hn hp, q _ _ G1 H1 rfl m (.bl _)⟩
theorem ed_isi2 {n1 n2 : String} {d : PyData} (h1 : n1 = "int" ∨ n1 = "bool" ∨ n1 = "str" ∨ n1 = "list" ∨ n1 = "tuple") (h2 : n2 = "int" ∨ n2 = "bool" ∨ n2 = "str" ∨ n2 = "list" ∨ n2 = "tuple") (hp : plainB d = true) (h : ED K B te δ (· = d)) :
    ED K B (tCB (rIsiT K) (tCons te (tCons (tTup (tCons (tC (.ty n1)) (tCons (tC (.ty n2)) tNil))) tNil))) δ (· = .bool (isTy n1 d || isTy n2 d)) := fun G H σ E Q q =>
  h G H σ E _ fun v d' G1 H1 e m r => by
    subst e
    refine ⟨(show 2 ≤ sizeLine by decide), fun p hp' => ?_⟩
    have I1 := E.iv.at m
    have m2 := Gm.newH (o := .tup [.ty n1, .ty n2]) I1 hp'
    refine ⟨v, p, [.ty n1, .ty n2], _, [.type n1, .type n2], isTy n1 d' || isTy n2 d', rfl, upd_same, .cons (.ty n1) (.cons (.ty n2) .nil), tyx_of (I1.at m2) hp r, ?_, q _ _ G1 _ rfl (m.trans m2 E.iv) (.bl _)⟩
    refine kitAny_cons (kit_tab h1 hp) (fun e1 => ?_) (fun e1 => by rw [e1]; rfl)
    rw [e1]
    exact kitAny_cons (kit_tab h2 hp) (fun e2 => by rw [e2]; exact kitAny_nil) (fun e2 => by rw [e2]; rfl)
mutual
def noD : PyData → Bool
  | .dict _ => false
  | .list xs => noDA xs
  | .tuple xs => noDA xs
  | _ => true
def noDA : List PyData → Bool
  | [] => true
  | x :: xs => noD x && noDA xs
end
mutual
theorem dp_of (I : Ex G H) : ∀ {v : V} {d : PyData}, noD d = true → Rp K G v d → Dp K H v d
  | _, _, _, .non => .non
  | _, _, _, .bl b => .bl b
  | _, _, _, .int i => .int i
  | _, _, _, .str x => .str x
  | _, _, n, .lst h k => .lst (sq_of (I _ _ h)) (dpA_of I (by simpa [noD] using n) k)
  | _, _, n, .tup h k => .tup (st_of (I _ _ h)) (dpA_of I (by simpa [noD] using n) k)
  | _, _, n, .ins _ _ _ => by simp [noD] at n
  | _, _, n, .dct _ => by simp [noD] at n
theorem dpA_of (I : Ex G H) : ∀ {vs : List V} {ds : List PyData}, noDA ds = true → RpA K G vs ds → DpAll K H vs ds
  | _, _, _, .nil => .nil
  | _, _, n, .cons h k => by
    have q := Bool.and_eq_true_iff.mp (show (noD _ && noDA _) = true by simpa [noDA] using n)
    exact .cons (dp_of I q.1 h) (dpA_of I q.2 k)
end
theorem rd_eqD {a b : PyData} (na : noD a = true) (nb : noD b = true) (sa : SeqAt.shaped a = true) (sb : SeqAt.shaped b = true) : RD K (rEqD K) a b (· = .bool (PyData.eqv a b)) := fun B G H x y I rx ry Q q =>
  ⟨a, b, dp_of I.gh na rx, dp_of I.gh nb ry, sa, sb, q _ _ G H rfl (Gm.refl I.gh) (.bl _)⟩
theorem rd_neD {a b : PyData} (na : noD a = true) (nb : noD b = true) (sa : SeqAt.shaped a = true) (sb : SeqAt.shaped b = true) : RD K (rNeD K) a b (· = .bool (!PyData.eqv a b)) := fun B G H x y I rx ry Q q =>
  ⟨a, b, dp_of I.gh na rx, dp_of I.gh nb ry, sa, sb, q _ _ G H rfl (Gm.refl I.gh) (.bl _)⟩
theorem rd_eqDs {a : PyData} (na : noD a = true) (sa : SeqAt.shaped a = true) : RD K (rEqD K) a a (· = .bool true) := by
  have e := rd_eqD (K := K) na na sa sa
  rw [SeqAt.eqv_refl a (SeqAt.canLay_of_shaped sa)] at e
  exact e
theorem rd_neDs {a : PyData} (na : noD a = true) (sa : SeqAt.shaped a = true) : RD K (rNeD K) a a (· = .bool false) := by
  have e := rd_neD (K := K) na na sa sa
  rw [SeqAt.eqv_refl a (SeqAt.canLay_of_shaped sa)] at e
  exact e
def eIn (C : Addr) (ns : List Str) (ds : List PyData) : PyData := .dict [(.int (Int.ofNat C), .tuple (ns.map PyData.str)), (.none, .tuple ds)]
theorem ins_of {v : V} {C : Addr} {ns : List Str} {ds : List PyData} (r : Rp K G v (eIn C ns ds)) : ∃ (a dx : Addr) (fs : List (Str × V)), v = .ref a ∧ G a = some (.ins C dx fs) ∧ fs.map (·.1) = ns ∧ RpA K G (fs.map (·.2)) ds := by
  unfold eIn at r
  generalize e1 : ns.map PyData.str = kd at r
  cases r with
  | @ins a C dx fs kd ds h k q =>
    refine ⟨a, dx, fs, rfl, h, ?_, q⟩
    have e : (fs.map (·.1)).map PyData.str = ns.map PyData.str := by rw [e1, k, List.map_map]; rfl
    exact List.map_inj_right (fun x y h => by injection h) |>.mp e
theorem lookup_at : ∀ {fs : List (Str × V)} {i : Nat} {f : Str} {v : V}, (fs.map (·.1)).Nodup → (fs.map (·.1))[i]? = some f → (fs.map (·.2))[i]? = some v → fs.lookup f = some v
  | [], _, _, _, _, h, _ => by simp at h
  | (g, x) :: fs, 0, f, v, _, h, k => by
    simp at h k
    subst h; subst k
    simp [List.lookup]
  | (g, x) :: fs, i + 1, f, v, nd, h, k => by
    rw [List.map_cons, List.nodup_cons] at nd
    rw [List.map_cons, List.getElem?_cons_succ] at h k
    have ne : (f == g) = false := by
      have : f ∈ fs.map (·.1) := List.mem_of_getElem? h
      have q : ¬ f = g := fun e => nd.1 (e ▸ this)
      simpa using q
    rw [List.lookup, ne]
    exact lookup_at nd.2 h k
theorem ed_fld {C : Addr} {ns : List Str} {ds : List PyData} {f : Str} {i : Nat} {d : PyData} (c : Cls K C) (na : NoAttr K C f) (nd : ns.Nodup) (h : ED K B te δ (· = eIn C ns ds)) (hf : ns[i]? = some f) (hd : ds[i]? = some d) : ED K B (tFld K te f) δ (· = d) := fun G H σ E Q q =>
  h G H σ E _ fun v d' G1 H1 e m r => by
    subst e
    obtain ⟨a, dx, fs, rfl, ha, hn, rs⟩ := ins_of r
    obtain ⟨x, hx, rx⟩ := rs.get hd
    exact ⟨a, C, dx, fs, x, rfl, m.gh _ _ ha, c, na, lookup_at (by rw [hn]; exact nd) (by rw [hn]; exact hf) hx, q x d G1 H1 rfl m rx⟩
theorem lookup_none {fs : List (Str × V)} {m : Str} (h : m ∉ fs.map (·.1)) : fs.lookup m = none := by
  induction fs with
  | nil => rfl
  | cons p fs ih =>
    obtain ⟨g, x⟩ := p
    rw [List.map_cons, List.mem_cons, not_or] at h
    have q : (m == g) = false := by simpa using h.1
    rw [List.lookup, q]
    exact ih h.2
end
end DL
namespace DL
variable [Tb]
open PySem PySem.Spec PyProof.Rows L2 Evl
structure CalX (P : Program) (w : World) (K : PySem.W.Frag) (mg : Str → Option Value) (base : Heap) (x : Str) (k : Nat) (ps : List Str) (sp : Sp) : Prop where
  ex : ∃ f fd, mg x = some (.ref f) ∧ PySem.W.keepIn K (.ref f) = true ∧ Binds K fd ps [] ∧ FnOk P w K mg base (L2.CX P w) k f fd ps sp
theorem pe_calX {X : Cx} {x : Str} {k j : Nat} {ps : List Str} {sp : Sp} {p pos : Pos} {e : Expr} {es : List Expr} {t : TA} (C : CalX X.prog X.w X.K X.mg X.base x k ps sp) (hr : Room j X.A) (hj : k ≤ j) (hg : Gl X x)
    (ha : PA X (e :: es) t) (hdb : (x == ("__debug__" : Str)) = false := by decide) (he : starEach (e :: es) X.env = (false, eval e X.env) :: starEach es X.env := by rfl) (hpl : (backTo pos (starEach es X.env)).any (·.1) = false := by rfl) : PE X (.Call (.Name x p) (e :: es) [] pos) (tCall sp [] E0 t) := by
  obtain ⟨f, fd, h1, h2, h3, h4⟩ := C.ex
  exact pe_call h4 (hr.mono hj) hg h1 h2 h3 .nil passL ha hdb he hpl
def CalP (P : Program) (w : World) (K : PySem.W.Frag) (mg : Str → Option Value) (base : Heap) (C : Addr) (f : Str) (k : Nat) (sp : Sp) : Prop := Cls K C ∧ ∃ p g fd, PropOf K C f p g ∧ Binds K fd ["self"] [] ∧ FnOk P w K mg base CX0 k g fd ["self"] sp
end DL
namespace DL
variable [Tb]
open PySem PySem.Spec PySem.Calls PyProof.Rows
section
open PySem.W
variable {prog : Program} {w : World} {A : Around} {E : Value → Shared → Prop} {s : Shared} {K : Frag} {x D : Addr} {ox : Obj} {od : Option Obj}
theorem dfind {C : Addr} {name : Str} {a g : Value} (hc : (clsIn K C).isSome = true) (ha : findIn K (.ref C) name = some (some a)) (hg : specialIn K a "__get__" = some (some g)) (ht : takesIn K a = some true) : findObj K C od name = some (.bind g a) := by
  obtain ⟨cd, hc⟩ := Option.isSome_iff_exists.mp hc
  unfold findObj
  rw [hc, Option.bind_some, ha, Option.bind_some]
  simp [hg, ht]
theorem dkin {Q : Option Value → Shared → Prop} (hdct : hasDictIn K D = true) (C : L2.ExcC K D)
    (X : K.In s.heap) (I : InstAt s.heap x ox D od) (h : Q (some (.ref D)) { s with toks := s.toks + 1 }) : wpAny (model prog w) A (getAttr? (.ref x) "__class__") Q E s := by
  have hf : findObj K D od "__class__" = some (.bind (.builtin "getset_descriptor.__get__") (.builtin "object.__class__")) := dfind (by obtain ⟨cd, hc, _⟩ := any_some hdct; rw [hc]; rfl) C.ha C.hn C.ht
  obtain ⟨hp, g, d, t, os⟩ := s
  have l0 := I.type (M := model prog w)
  have l1 := looks_findIn (M := model prog w) X C.hg
  have l2 := looks_findIn (M := model prog w) X C.hk
  have l3 := looks_find (M := model prog w) X I hf
  have sub : Looks (model prog w) hp (isInstance (.ref x) (.type "BaseException")) true := l0.andThen (looks_subIn X C.hs)
  have y0 : (false && onTheHeap (Value.builtin "BaseException.__getattribute__")) = false := rfl
  have y1 : (onTheHeap (Value.ref D) && Value.builtin "BaseException.__getattribute__" == Value.builtin "object.__getattribute__") = false := by
    have z : (Value.builtin "BaseException.__getattribute__" == Value.builtin "object.__getattribute__") = false := by decide +kernel
    rw [z]; rfl
  unfold getAttr? getAttrBy? getAttrBy
  refine wpAny_bind (wpAny_mkText (wpAny_bind (wpAny_attempt (wpAny_holding (wpAny_bind (l0.at (wpAny_bind (l1.at ?_))))))))
  show wpAny _ _ (if (onTheHeap (Value.ref D) && Value.builtin "BaseException.__getattribute__" == Value.builtin "object.__getattribute__") = true then _ else _) _ _ _
  rw [y1, if_neg Bool.false_ne_true]
  unfold getAttrByItsOwn hookBefore
  refine wpAny_bind ?_
  rw [if_pos (show onTheHeap (Value.ref D) = true from rfl)]
  refine l2.at ?_
  refine wpAny_bind (wpAny_attempt (wpAny_holding ?_))
  unfold callGetattribute
  rw [y0, if_neg Bool.false_ne_true]
  unfold boundAndCalled
  rw [PySem.F.excAttr_ValueError.ga.bind (.ref x)]
  refine wpAny_bind (wpAny_pure ?_)
  show wpAny _ _ (call (.builtin "BaseException.__getattribute__") [.ref x, .str "__class__" t]) _ _ _
  refine wpAny_call (codeAny_call_builtin PySem.F.excAttr_ValueError.ga.plain PySem.F.entry_bexc_ga ?_)
  refine @check_slot (model prog w) _ _ ⟨hp, g, d, t + 1, os⟩ "BaseException.__getattribute__" "BaseException" "__getattribute__" (.ref x) [.str "__class__" t] [] _ (by decide +kernel) (by decide +kernel) sub (PySem.F.args_bexc_ga (.ref x) (.str "__class__" t)) ?_
  unfold Builtin.«object.__getattribute__»
  refine wpAny_bind (wpAny_of_eq (a := ((Value.ref x : Value), [Value.str "__class__" t])) (by first | rfl | (simp only [slotArgs]; rfl)) ?_)
  refine wpAny_bind (wpAny_pure (wpAny_bind (l0.at (wpAny_bind (l3.at ?_)))))
  show wpAny _ _ (holding [Value.builtin "object.__class__"] (call (.builtin "getset_descriptor.__get__") [.builtin "object.__class__", .ref x, .ref D]) >>= ret) _ _ _
  refine wpAny_bind (wpAny_holding (wpAny_call (class_get (s := ⟨hp, g, d, t + 1, os⟩) (ox := ox) (od := od) X I C.hm ?_)))
  refine wpAny_pure ?_
  show wpAny _ _ (handedOut (.ref D)) _ _ _
  rw [handedOut_of (v := .ref D) rfl]
  first
    | exact wpAny_pure (wpAny_pure h)
    | exact wpAny_pure h
    | exact wpAny_pure (wpAny_bind (wpAny_pure (wpAny_pure h)))
theorem dkitx (C : L2.ExcC K D) : KitX K (.ref x) (.ref D) (fun h => InstAt h x ox D od) where
  ty := fun _ _ _ I => I.type
  it := fun _ _ X _ => by
    obtain ⟨cdD, hcD, _⟩ := any_some C.hd
    unfold clsIn at hcD
    split at hcD
    · rename_i c' d' cd' sl' ho
      intro A' Q' E' s' k q
      unfold isType loadHead
      exact wpAny_bind (wpAny_loadPart (k _ _ (X _ _ ho)) (wpAny_pure q))
    · cases hcD
  ne := fun h tp dd its n sl X htp => by
    obtain ⟨cdD, hcD, _⟩ := any_some C.hd
    refine Bool.eq_false_iff.mpr fun q => ?_
    have e : D = tp := Value.ref.inj (beq_iff_eq.mp q)
    subst e
    unfold clsIn at hcD
    split at hcD
    · rename_i c' d' cd' sl' ho
      have z := (X _ _ ho).symm.trans htp
      cases z
    · cases hcD
  ca := fun X I k => dkin C.hd C X I k
end
open L2 Evl
def rIsEd (K : PySem.W.Frag) (a : Addr) (cls : Value) (d : Option Addr) : List V → Hp → VK → Prop := fun xs H Q => ∃ (c : V) (cv : Value) (b : Bool) (D dd : Addr) (fs : List (Str × V)), cls = .ref D ∧ d = some dd ∧ H dd = some (.xd fs) ∧ ExcC K D ∧ xs = [.ref a, c] ∧ (∀ u, RelV c u → u = cv) ∧ PySem.W.kitOne K (.ref D) cv = some b ∧ Q (.bl b) H
theorem call_isEd {X : Cx} {a : Addr} {oe : Obj} {cls : Value} {d : Option Addr} {pn : List (Addr × Obj)} (hz : Zc cls d oe) (hf : ∃ vs, oe.data = .fields vs) : CallR (X.suite a ((a, oe) :: pn)) (.builtin "isinstance") (rIsEd X.K a cls d) := by
  intro pins s σ H xs us Q I r h
  obtain ⟨c, cv, b, D, dd, fs, rfl, rfl, hdd, C, rfl, hcv, e, q⟩ := h
  cases r with
  | cons rx rr =>
    cases rr with
    | cons rt rr =>
      cases rr
      cases rx
      have ec := hcv _ rt
      subst ec
      obtain ⟨hget, _⟩ := I.pin (a, oe) (List.mem_append.mpr (.inl List.mem_cons_self))
      obtain ⟨vs, hv⟩ := hf
      have hx : ObjOk X.prog X.w H s.heap dd (.xd fs) := I.hok dd _ hdd
      obtain ⟨mA, hns, hr⟩ := hx
      obtain ⟨od, ho, hl⟩ := lookIn_ns hns
      have J : PySem.W.InstAt s.heap a oe D (some od) := ⟨hget, hz.1, by unfold PySem.W.notCls; rw [hv] <;> rfl, by rw [hz.2]; exact ho⟩
      exact PySem.W.kia_one (dkitx C) I.kIn J e (fun z => nomatch z) fun tk => ⟨.bl b, H, I.kept (t' := tk) fun _ _ z => z, rfl, q⟩
def iSeq (K : PySem.W.Frag) (tl : TE) : TI := fun σ H R => tl σ H fun x H1 => ∃ a, x = .ref a ∧ (((∃ xs, SqL K H1 a xs) ∧ R (Itl K a) H1) ∨ ((∃ xs, SqT K H1 a xs) ∧ R (Itt K a) H1))
theorem pi_seq {X : Cx} {tg l : Expr} {tl : TE} (hl : PE X l tl) : PI X tg l (iSeq X.K tl) := by
  refine ⟨fun pins s σ H R I h => ?_⟩
  refine thn (hl.run pins s σ H _ I h) fun v s1 ⟨x, H1, I1, r1, q1⟩ => ?_
  obtain ⟨a, e, q⟩ := q1
  subst e
  cases r1
  rcases q with ⟨⟨xs, hq⟩, q⟩ | ⟨⟨xs, hq⟩, q⟩
  · obtain ⟨its, rv, p, hz⟩ := I1.list hq
    refine wpAny_pyIter_list p.isList ?_
    refine ⟨s1.heap.objs.size, [s1.heap.objs.size], _, _, H1, rfl, I1.kept (t' := s1.toks) fun b o e => Heap.get?_push_of_some _ e, turn_list a _, ⟨_, Heap.get?_push_size _ rfl, rfl, rfl⟩, fun b hb => ?_, q⟩
    have e : b = s1.heap.objs.size := by simpa using hb
    subst e
    exact I1.fpOk (Nat.le_refl _) (I1.hok.fresh (Nat.le_refl _))
  · obtain ⟨its, rv, p, hz⟩ := I1.tuple hq
    refine wpAny_pyIter_tuple (show s1.heap.IsTuple a its.toArray from p) ?_
    refine ⟨s1.heap.objs.size, [s1.heap.objs.size], _, _, H1, rfl, I1.kept (t' := s1.toks) fun b o e => Heap.get?_push_of_some _ e, turn_tuple a _, ⟨_, Heap.get?_push_size _ rfl, rfl, rfl⟩, fun b hb => ?_, q⟩
    have e : b = s1.heap.objs.size := by simpa using hb
    subst e
    exact I1.fpOk (Nat.le_refl _) (I1.hok.fresh (Nat.le_refl _))
def RowV (ds : List PyData) (d : PyData) : Prop := d = .list ds ∨ d = .tuple ds
section
variable {K : PySem.W.Frag} {B : Base} {G H G' H' : Hp} {δ : En} {te ta tb : TE} {t : TS} {P : Po}
theorem wd_seq {ds : List PyData} (h : ED K B te δ (RowV ds)) : WD K B (iSeq K te) δ (· = ds) := fun G H σ E R q => h G H σ E _ fun v d G1 H1 pd m r => by
  rcases pd with rfl | rfl
  · obtain ⟨a, xs, rfl, ha, rs⟩ := r.l
    exact ⟨a, rfl, .inl ⟨⟨xs, sq_of (m.gh _ _ ha)⟩, q _ ds G1 H1 rfl m (jd_list ha rs)⟩⟩
  · obtain ⟨a, xs, rfl, ha, rs⟩ := r.t
    exact ⟨a, rfl, .inr ⟨⟨xs, ex_t m.gh ha⟩, q _ ds G1 H1 rfl m (jd_tup ha rs)⟩⟩
theorem ed_lenS {ds : List PyData} (h : ED K B te δ (RowV ds)) : ED K B (tCB (rLenQ K) (tCons te tNil)) δ (· = .int (ds.length : Int)) := fun G H σ E Q q => h G H σ E _ fun v d G1 H1 pd m r => by
  have I1 := E.iv.at m
  rcases pd with rfl | rfl
  · exact cd_lenL B G1 H1 [v] I1 (.one r) Q fun z d G2 H2 p m2 r2 => q z d G2 H2 p (m.trans m2 E.iv) r2
  · exact cd_lenT B G1 H1 [v] I1 (.one r) Q fun z d G2 H2 p m2 r2 => q z d G2 H2 p (m.trans m2 E.iv) r2
theorem ed_row {i : Nat} {d : PyData} {ds : List PyData} (h : δ[i]? = some (.sh d)) (hd : RowV ds d) : ED K B (tVar i) δ (RowV ds) := (ed_var h).imp fun e q => by rw [q]; exact hd
def spErr (C : Addr) (f : Str) : Sp := fun vs H Q _ => ∃ a v, vs = [.ref a, v] ∧ H a = some (exo a C none) ∧ ∀ dx, H dx = none → dx ≠ a → Q .non (upd (upd H dx (exd dx [(f, v)])) a (exo a C (some dx)))
end
end DL
namespace DL
variable [Tb]
open PySem PySem.Spec PyProof.Rows L2 Evl
theorem pe_calS {X : Cx} {x : Str} {k j : Nat} {ps : List Str} {sp : Sp} {W : WX} {p pos : Pos} {e : Expr} {es : List Expr} {t : TA} (C : CalX X.prog X.w X.K X.mg X.base x k ps sp) (hr : Room j X.A) (hj : k ≤ j) (hg : Gl X x) (tk : Takes X W)
    (ha : PA X (e :: es) t) (hdb : (x == ("__debug__" : Str)) = false := by decide) (he : starEach (e :: es) X.env = (false, eval e X.env) :: starEach es X.env := by rfl) (hpl : (backTo pos (starEach es X.env)).any (·.1) = false := by rfl) : PE X (.Call (.Name x p) (e :: es) [] pos) (tCallS sp (WE W) t) := by
  obtain ⟨f, fd, h1, h2, h3, h4⟩ := C.ex
  exact pe_callS h4 (hr.mono hj) hg h1 h2 h3 (fun σ => passAt tk σ) ha hdb he hpl
structure Err (P : Program) (w : World) (K : PySem.W.Frag) (mg : Str → Option Value) (base : Heap) (C : Addr) (f : Str) (k : Nat) : Prop where
  oex : OexC K C
  xf : XfC K C
  no : PySem.W.findIn K (.ref C) f = some none
  made : ∃ fI fd, PySem.W.findIn K (.ref C) "__init__" = some (some (.ref fI)) ∧ PySem.W.typeIn K (.ref fI) = some (.type "function") ∧ Binds K fd ["self", f] [] ∧ FnOk P w K mg base CX0 k fI fd ["self", f] (spErr C f)
theorem pmk_err {X : Cx} {e : Expr} {ta : TA} {p pos : Pos} {x f : Str} {C : Addr} {k j : Nat} (T : Err X.prog X.w X.K X.mg X.base C f k) (hr : Room j X.A) (hj : k + 1 ≤ j) (hg : Gl X x) (hm : X.mg x = some (.ref C))
    (ha : PA X [e] ta) (hdb : (x == ("__debug__" : Str)) = false := by decide) (he : starEach [e] X.env = (false, eval e X.env) :: starEach [] X.env := by rfl) (hpl : (backTo pos (starEach [] X.env)).any (·.1) = false := by rfl) : PMk X (.Call (.Name x p) [e] [] pos) (tMkO C (spErr C f) [] ta) := by
  obtain ⟨fI, fd, h1, h2, h3, h4⟩ := T.made
  exact pmk_oex T.oex h1 h2 h4 (hr.mono hj) h3 .nil pass0 hg hm ha hdb he hpl
section
variable {K : PySem.W.Frag} {B : Base} {G H G' H' : Hp} {δ : En} {te ta tb : TE} {t : TS} {P : Po}
theorem err_run {C : Addr} {f : Str} {vs : List V} {Q : VK} {E : XK} {n : Str} (o : OexC K C) (no : PySem.W.findIn K (.ref C) f = some none) (h : spErr C f vs H Q E) : tOst K f (tVar 0) (tVar 1) { nx := fun _ H' => Q .non H', rt := Q } (L2.start ["self", n] vs) H := by
  obtain ⟨a, v, rfl, h1, h2⟩ := h
  exact ⟨v, rfl, .ref a, rfl, a, C, rfl, o, no, .inl ⟨h1, h2⟩⟩
end
end DL
namespace DL
variable [Tb]
open PySem PySem.Spec PyProof.Rows L2 Evl
def rReprD (K : PySem.W.Frag) : List V → Hp → VK → Prop := fun xs H Q => ∃ a d, xs = [.ref a] ∧ Dp K H (.ref a) d ∧ d.showable = true ∧ d.hasDict = false ∧ d.depth ≤ 64 ∧ d.shown.length ≤ sizeLine ∧ Q (.str d.shown) H
theorem cr_reprD {X : Cx} {k : Nat} (hG : X.A.guards = some []) (hr : Room k X.A) : CallR X (.builtin "repr") (rReprD X.K) := by
  intro pins s σ H xs us Q I r h
  obtain ⟨a, d, rfl, hd, h1, h2, h3, h4, q⟩ := h
  cases r with
  | cons rx rr =>
    cases rr
    obtain ⟨as, ra⟩ := Dp.reads I d (.ref a) _ hd rx
    cases rx
    exact repr_of_reads' ra h1 (PyData.noDict_hsm h2) hG (by have := hr.un; omega) (fun _ _ e => e) (fun h' u tk hk => ⟨.str d.shown, H, I.kept hk, ⟨u, rfl⟩, q⟩) h4
theorem cd_repr {K : PySem.W.Frag} {d : PyData} (no : noD d = true) (h1 : d.showable = true) (h2 : d.hasDict = false) (h3 : d.depth ≤ 64) (h4 : d.shown.length ≤ sizeLine) (hl : ∃ xs, d = .list xs) : CD K (rReprD K) [d] (· = .str d.shown) := fun B G H vs I r Q q => by
  cases r with
  | cons r rs =>
    cases rs
    obtain ⟨xs, rfl⟩ := hl
    obtain ⟨a, ys, rfl, ha, ry⟩ := r.l
    exact ⟨a, _, rfl, dp_of I.gh no r, h1, h2, h3, h4, q _ _ G H rfl (Gm.refl I.gh) (.str _)⟩
def FnG (P : Program) (w : World) (K : PySem.W.Frag) (mg : Str → Option Value) (base : Heap) (k : Nat) (f : Addr) (fd : FuncData) (ps : List Str) (sp : Sp) : Prop :=
  ∀ (A : Around) (outer : List Env) (s : Shared) (H : Hp) (args : Args) (us : List Value) (vs : List V) (Q : VK) (E : XK), A.guards = some [] → Room k A → Env0 P w K mg base A outer s H → BindsTo s fd args (ps.zip us) → Vals vs us → sp vs H Q E → codeAny (model P w) A (.call (.ref f) args) (CR CX0 outer P w H s Q E) s
section
variable {P : Program} {w : World} {K : PySem.W.Frag} {mg mb : Str → Option Value} {base : Heap}
theorem fnG {x qual : Str} {st : Stmt} {f : Addr} {fd : FuncData} {N ps : List Str} {k : Nat} {sp : Sp} (F : FnP K x qual st f fd) (S : FnScope N ps (defScope st)) (len : ∀ vs H Q E, sp vs H Q E → vs.length = ps.length)
    (body : ∀ (cdv : Value) (A : Around) (outer : List Env) (s : Shared) (H : Hp) (vs : List V) (Q : VK) (E : XK), (A.deeper (envOfC qual (defScope st) s.heap.objs.size f cdv)).guards = some [] → Room k (A.deeper (envOfC qual (defScope st) s.heap.objs.size f cdv)) → sp vs H Q E →
      ∃ t, PSs (cxOf CX0 P w K mg base N qual (defScope st) f cdv A outer s H E).nox (defBody st) t ∧ t { nx := fun _ H' => Q .non H', rt := Q } (L2.start N vs) H) : FnG P w K mg base (k + 1) f fd ps sp := by
  obtain ⟨oc, od, dV, kV, doc, pm, an, cdv, ct, osl, rfl, lk, hcd, -, -⟩ := F.ex
  intro A outer s H args us vs Q E hG hr e0 hb r hsp
  have kp : ∀ b o, base.get? b = some o → s.heap.get? b = some o := fun b o e => (e0.bs b o e).1
  have hK := e0.mod.kin.keeps kp
  have kind : ∀ y ∈ ps.zip us, (defScope st).names.lookup y.1 = some .local ∨ ((defScope st).names.lookup y.1 = some .cell ∧ ((cellsFrom (s.heap.objs.size + 1) (defScope st).names []).lookup y.1).isSome = true) := by
    rintro ⟨n, v⟩ hy
    exact (S.par n (List.of_mem_zip hy).1).imp (fun q => q) fun q => ⟨q, PySem.W.cellsFrom_some _ _ _ (.inl q)⟩
  refine codeAny_call_function hr.depth (hK _ _ lk) rfl S.co S.gen rfl (PySem.W.codeRec_of hK hcd) (hb _ _ _ _ (wpAny_newFunctionEnv_cells S.kind kind fun env he s1 x => ?_))
  cases he
  refine ⟨(e0.mod.nolimit.keeps kp).keeps x.toInCall.keep, codeAny_func ?_⟩
  obtain ⟨t, ht, hq⟩ := body cdv A outer s H vs Q E hG (hr.deeper _) hsp
  refine wpAny_mono ((PSs.nox ht).run [] s1 (L2.start N vs) H _ (inv_start S hr.hd e0 (len _ _ _ _ hsp) r x) hq) (fun fl s' hs => ?_) fun _ _ z => z
  cases fl with
  | ret u => obtain ⟨v, σ', H', J, rv, q⟩ := hs; exact ⟨v, H', J.os, J.bare, J.base, J.hok, rv, q⟩
  | next => obtain ⟨σ', H', J, q⟩ := hs; exact ⟨V.non, H', J.os, J.bare, J.base, J.hok, rfl, q⟩
  | brk => exact hs.elim fun _ z => z.elim fun _ y => (show False from y.2).elim
  | cont => exact hs.elim fun _ z => z.elim fun _ y => (show False from y.2).elim
end
end DL
namespace DL
variable [Tb]
open PySem PySem.Spec PyProof.Rows L2 Evl
def fnAt (K : PySem.W.Frag) (a : Addr) : He.FnW := match K.lookup a with
  | some ⟨_, _, .func fd, _⟩ => some (fd.name, fd.qualname, fd.params, fd.body, fd.scope, fd.globals, fd.closure, fd.builtins)
  | _ => none
structure PathD where
  at_ : PySem.W.Frag → Addr
  name : Str
  qual : Str
  params : Arguments
  body : List Stmt
  scope : Scope
def PathD.val (d : PathD) : He.FnW := some (d.name, d.qual, d.params, .stmts d.body, d.scope, mainGlobals, [], builtinsNs)
def PathD.ok (K : PySem.W.Frag) (d : PathD) : Bool := PySem.W.keepIn K (.ref (d.at_ K)) && (match K.lookup (d.at_ K) with
  | some ⟨_, _, .func fd, _⟩ => PySem.W.codeIn K fd.code d.qual && He.dflB K fd.defaults []
  | _ => false)
theorem PathD.funD {K : PySem.W.Frag} {d : PathD} (e : fnAt K (d.at_ K) = d.val) (c : d.ok K = true) : ∃ fd, FunD K d.name d.qual d.params d.body d.scope [] [] (d.at_ K) fd := by
  unfold PathD.ok at c
  rw [Bool.and_eq_true] at c
  unfold fnAt at e
  obtain ⟨kp, c⟩ := c
  cases hq : K.lookup (d.at_ K) with
  | none => rw [hq] at c; cases c
  | some o =>
    rw [hq] at c e
    obtain ⟨oc, od, dt, osl⟩ := o
    cases dt with
    | func fd =>
      obtain ⟨a1, a2, a3, a4, a5, a6, a7, a8, a9, a10, a11, a12, a13, a14, a15⟩ := fd
      have e : (some (a1, a2, a3, a4, a5, a6, a7, a15) : He.FnW) = some (d.name, d.qual, d.params, .stmts d.body, d.scope, mainGlobals, [], builtinsNs) := e
      injection e with e
      injection e with e1 e; injection e with e2 e; injection e with e3 e; injection e with e4 e
      injection e with e5 e; injection e with e6 e; injection e with e7 e8
      subst e1 e2 e3 e4 e5 e6 e7 e8
      have c : (PySem.W.codeIn K a13 d.qual && He.dflB K a8 []) = true := c
      rw [Bool.and_eq_true] at c
      exact ⟨_, ⟨oc, od, a8, a9, a10, a11, a12, a13, a14, osl, rfl, hq, c.1, He.dflB_ok c.2, .inl rfl⟩, kp⟩
    | _ => cases c
abbrev AlO : Type := He.AlD × (Bool × List He.FnW)
def obsO (fa : List He.Fa) (fn : List He.DefD) (fo : List PathD) (ex : PySem.W.Frag → List Bool) (K : PySem.W.Frag) : AlO := (He.obsD fa fn K, ((ex K).all id && fo.all fun d => d.ok K, fo.map fun d => fnAt K (d.at_ K)))
def valO (fn : List He.DefD) (fo : List PathD) : AlO := (He.valD fn, (true, fo.map PathD.val))
def SaysO (fa : List He.Fa) (fn : List He.DefD) (fo : List PathD) (ex : PySem.W.Frag → List Bool) (K : PySem.W.Frag) : Prop := obsO fa fn fo ex K = valO fn fo
section
variable {fa : List He.Fa} {fn : List He.DefD} {fo : List PathD} {ex : PySem.W.Frag → List Bool} {K : PySem.W.Frag}
theorem SaysO.d (c : SaysO fa fn fo ex K) : He.SaysD fa fn K := congrArg (fun z : AlO => z.1) c
theorem SaysO.b (c : SaysO fa fn fo ex K) (i : Nat) {b : Bool} (h : (ex K)[i]? = some b := by rfl) : b = true := by
  have e : ((ex K).all id && fo.all fun d => d.ok K) = true := congrArg (fun z : AlO => z.2.1) c
  rw [Bool.and_eq_true] at e
  exact List.all_eq_true.mp e.1 b (List.mem_of_getElem? h)
theorem SaysO.p (c : SaysO fa fn fo ex K) (i : Nat) {d : PathD} (h : fo[i]? = some d := by rfl) : ∃ fd, FunD K d.name d.qual d.params d.body d.scope [] [] (d.at_ K) fd := by
  have e : ((ex K).all id && fo.all fun d => d.ok K) = true := congrArg (fun z : AlO => z.2.1) c
  rw [Bool.and_eq_true] at e
  have e2 : fo.map (fun d => fnAt K (d.at_ K)) = fo.map PathD.val := congrArg (fun z : AlO => z.2.2) c
  have e3 : (fo.map fun d => fnAt K (d.at_ K))[i]? = (fo.map PathD.val)[i]? := by rw [e2]
  rw [List.getElem?_map, List.getElem?_map, h] at e3
  exact PathD.funD (Option.some.inj e3) (List.all_eq_true.mp e.2 d (List.mem_of_getElem? h))
end
def oexB (K : PySem.W.Frag) (C : Addr) : Bool := match K.lookup C with
  | some ⟨.type "type", _, .cls cd, sl⟩ => (match cd.mro, sl.toList with
    | .ref D :: bm, [_, _, _, _, some (.builtin n), _] => D == C && (n == "ValueError.__new__" && (!cd.hasDel && (cd.hasDict && PySem.HandSPX.refsVE bm)))
    | _, _ => false)
  | _ => false
theorem oexB_ok {K : PySem.W.Frag} {C : Addr} (q : oexB K C = true) : ∃ nm q N bs bm sn sub ab col dd k0 k1 k2 k3 k5, K.lookup C = some (excClassObj nm q C N bs bm true sn sub ab col dd k0 k1 k2 k3 k5 "ValueError.__new__") ∧ PySem.HandSPX.refsVE bm = true := by
  unfold oexB at q
  split at q
  · rename_i dd cd sl ho
    split at q
    · rename_i D bm k0 k1 k2 k3 n k5 hm hs
      rw [Bool.and_eq_true, Bool.and_eq_true, Bool.and_eq_true, Bool.and_eq_true, beq_iff_eq, beq_iff_eq, Bool.not_eq_true'] at q
      obtain ⟨rfl, rfl, hdel, hd, hr⟩ := q
      obtain ⟨nm, bs, mro, ns, qn, hd', sn, sub, ab, col, del⟩ := cd
      dsimp only at hm hdel hd
      subst hm hdel hd
      obtain ⟨l⟩ := sl
      dsimp only at hs
      subst hs
      exact ⟨nm, qn, ns, bs, bm, sn, sub, ab, col, dd, k0, k1, k2, k3, k5, ho, hr⟩
    · cases q
  · cases q
def propAt (T f : Str) (K : PySem.W.Frag) : Addr := match PySem.W.recIn K (He.ma K (He.ga K T) f) "property" with
  | some (.ref g :: _) => g
  | _ => 0
def propB (T f : Str) (K : PySem.W.Frag) : List Bool := [He.eqO (PySem.W.findIn K (.ref (He.ga K T)) f) (some (some (.ref (He.ma K (He.ga K T) f)))), He.eqO (PySem.W.specialIn K (.ref (He.ma K (He.ga K T) f)) "__get__") (some (some (.builtin "property.__get__"))), decide (PySem.W.takesIn K (.ref (He.ma K (He.ga K T) f)) = some true),
  (match PySem.W.recIn K (He.ma K (He.ga K T) f) "property" with | some (.ref _ :: _) => true | _ => false)]
theorem propB_ok {T f : Str} {K : PySem.W.Frag} (h : ∀ b ∈ propB T f K, b = true) : PropOf K (He.ga K T) f (He.ma K (He.ga K T) f) (propAt T f K) := by
  refine ⟨He.eqO_ok (h _ (.head _)), He.eqO_ok (h _ (.tail _ (.head _))), of_decide_eq_true (h _ (.tail _ (.tail _ (.head _)))), ?_⟩
  have e := h _ (.tail _ (.tail _ (.tail _ (.head _))))
  unfold propAt
  split at e
  · rename_i g r hq
    rw [hq]
    exact ⟨r, rfl⟩
  · cases e
end DL
namespace DL
variable [Tb]
open PySem PySem.Spec PyProof.Rows L2 Evl
def tPropU (R : Addr → Sp → Prop) (ta : TE) : TE := fun σ H Q => ta σ H fun x H1 => ∃ (a C dx : Addr) (fs : List (Str × V)) (sp : Sp), x = .ref a ∧ H1 a = some (.ins C dx fs) ∧ R C sp ∧ sp (.ref a :: []) H1 Q E0
section
variable {X : Cx} {R : Addr → Sp → Prop} {o e : Expr} {es : List Expr} {ta : TE} {t : TA} {m f : Str} {k j : Nat} {ps : List Str} {apos pos : Pos}
theorem pe_propU (hR : ∀ C sp, R C sp → CalP X.prog X.w X.K X.mg X.base C f k sp) (he : PE X e ta) (hr : Room j X.A) (hj : k + 1 ≤ j) (hab : attributeBase e f X.env (eval e X.env) = eval e X.env := by rfl) : PE X (.Attribute e f pos) (tPropU R ta) := by
  refine ⟨fun pins s σ H Q I h => attr_of hab (thn (he.run pins s σ H _ I h) fun u s1 ⟨x, H1, I1, rx, a, C, dx, fs, sp, ex, ea, hC, q⟩ => ?_)⟩
  subst ex
  cases (show u = Value.ref a from rx)
  obtain ⟨c, p, g, fd, hp, hb, F⟩ := hR C sp hC
  exact getprop_ok I1 ea c hp F (hr.mono hj) hb .nil pass0 q
end
section
variable {K : PySem.W.Frag} {B : Base} {G H G' H' : Hp} {δ : En} {te ta tb : TE} {t : TS} {P : Po} {R : Addr → Sp → Prop}
theorem ed_con {C : Addr} {ns : List Str} {ds : List PyData} {f : Str} {v : V} {u : Value} {d : PyData} (c : Cls K C) (k : Con K C f v u) (hf : f ∉ ns) (hv : ∀ G, Rp K G v d) (h : ED K B te δ (· = eIn C ns ds)) : ED K B (tCon K te f) δ (· = d) := fun G H σ E Q q =>
  h G H σ E _ fun w d' G1 H1 e m r => by
    subst e
    obtain ⟨a, dx, fs, rfl, hA, hn, rs⟩ := ins_of r
    exact ⟨a, C, dx, fs, v, u, rfl, m.gh _ _ hA, c, k, lookup_none (by rw [hn]; exact hf), q v d G1 H1 rfl m (hv G1)⟩
def putM (m : Ky → Option PyData) (k : Ky) (d : PyData) : Ky → Option PyData := fun x => if x = k then some d else m x
end
end DL
namespace DL
variable [Tb]
open PySem PySem.Spec PyProof.Rows L2 Evl
section
variable {K : PySem.W.Frag} {B : Base} {G H G' H' : Hp} {δ : En} {te ta tb tk tv : TE} {tt : TT} {t : TS} {P : Po}
end
end DL
namespace L2
open PySem PySem.Spec PyProof.Rows
section
variable {X : Cx}
end
end L2
namespace DL
variable [Tb]
open PySem PySem.Spec PyProof.Rows L2 Evl
abbrev Pd := PyData → Prop
abbrev WT := List PyData → Pd → Prop
abbrev XR := Addr → List (Str × PyData) → Prop
abbrev WTX := List PyData → Pd → XR → Prop
abbrev noR : XR := fun _ _ => False
def FsR (K : PySem.W.Frag) (G : Hp) (fs : List (Str × V)) (ds : List (Str × PyData)) : Prop := fs.map (·.1) = ds.map (·.1) ∧ RpA K G (fs.map (·.2)) (ds.map (·.2))
def XdAt (H : Hp) (dd : Option Addr) (fs : List (Str × V)) : Prop := match dd with
  | some a => H a = some (.xd fs)
  | none => fs = []
def EOk (K : PySem.W.Frag) (B : Base) (E : XK) (R : XR) : Prop := ∀ C ds fs dd G' H', R C ds → FsR K G' fs ds → Iv B G' H' → XdAt H' dd fs → E (.ref C) dd H'
theorem EOk.no {K : PySem.W.Frag} {B : Base} {E : XK} : EOk K B E noR := fun _ _ _ _ _ _ h => h.elim
def SpW (K : PySem.W.Frag) (n : Nat) (W : WT) : Sp := fun vs H Q _ => ∃ G ds P, I0 G H ∧ RpA K G vs ds ∧ ds.length = n ∧ W ds P ∧ ∀ d, P d → ∀ v G' H', Iv ⟨G, H, fun _ => False⟩ G' H' → Rp K G' v d → Q v H'
def SpWX (K : PySem.W.Frag) (n : Nat) (W : WTX) : Sp := fun vs H Q E => ∃ G ds P R, I0 G H ∧ RpA K G vs ds ∧ ds.length = n ∧ W ds P R ∧ (∀ d, P d → ∀ v G' H', Iv ⟨G, H, fun _ => False⟩ G' H' → Rp K G' v d → Q v H') ∧ EOk K ⟨G, H, fun _ => False⟩ E R
def SpWD (K : PySem.W.Frag) (n : Nat) (W : WT) : Sp := fun vs H Q _ => ∃ G a ws ds P, vs = .ref a :: ws ∧ I0 G H ∧ G a = none ∧ DrOk H a ∧ RpA K G ws ds ∧ ds.length = n ∧ W ds P ∧ ∀ d, P d → ∀ v G' H', Iv ⟨G, H, (· = a)⟩ G' H' → Rp K G' v d → Q v H'
abbrev WL := List PyData → (List PyData → Prop) → Prop
def SpWDL (K : PySem.W.Frag) (n : Nat) (W : WL) : Sp := fun vs H Q _ => ∃ G a ws ds P, vs = .ref a :: ws ∧ I0 G H ∧ G a = none ∧ DrOk H a ∧ RpA K G ws ds ∧ ds.length = n ∧ W ds P ∧
  ∀ p us es G' H', P es → Iv ⟨G, H, (· = a)⟩ G' H' → H p = none → G' p = none → H' p = some (.lst us) → RpA K G' us es → Q (.ref p) H'
def Pn (P : Pd) : Po := ⟨fun _ => P .none, P, fun _ => False, fun _ => False⟩
def wN (K : PySem.W.Frag) (t : TS) (N : List Str) : WT := fun ds P => ∀ B, SD K B t (stD N ds) (Pn P)
def wX (K : PySem.W.Frag) (t : XK → TS) (N : List Str) : WTX := fun ds P R => ∀ B E, EOk K B E R → SD K B (t E) (stD N ds) (Pn P)
def wD (K : PySem.W.Frag) (t : TS) (N : List Str) : WT := fun ds P => ∀ B, SD K B t (.dr :: stD N.tail ds) (Pn P)
def wDL (K : PySem.W.Frag) (t : TS) (N : List Str) (i : Nat) : WL := fun ds P => ∀ B, SD K B t (.dr :: stD N.tail ds) ⟨fun δ' => ∃ es, δ'[i]? = some (.ow es) ∧ P es, fun _ => False, fun _ => False, fun _ => False⟩
section
variable {K : PySem.W.Frag} {B : Base} {G H : Hp} {δ : En} {te ta tb : TE} {tA : TA} {n : Nat} {N : List Str} {vs : List V} {Q : VK} {X E : XK} {P : Pd} {R : XR} {ds : List PyData}
theorem spWX_run {t : XK → TS} (h : SpWX K n (wX K t N) vs H Q E) (hl : n ≤ N.length) : t E { nx := fun _ H' => Q .non H', rt := Q } (L2.start N vs) H := by
  obtain ⟨G, ds, P, R, e, r, l, w, k, kx⟩ := h
  exact w _ E kx G H _ _ (env_start (Iv.pure e) r (by omega)) (fun δ' G' H' σ' q e1 E' => k _ q .non G' H' E'.iv .non) (fun v d G' H' q e1 I' rd => k d q v G' H' I' rd) (fun _ _ _ _ q => q.elim) (fun _ _ _ _ q => q.elim)
theorem spW_run {t : TS} (h : SpW K n (wN K t N) vs H Q E) (hl : n ≤ N.length) : t { nx := fun _ H' => Q .non H', rt := Q } (L2.start N vs) H := by
  obtain ⟨G, ds, P, e, r, l, w, k⟩ := h
  exact w _ G H _ _ (env_start (Iv.pure e) r (by omega)) (fun δ' G' H' σ' q e1 E' => k _ q .non G' H' E'.iv .non) (fun v d G' H' q e1 I' rd => k d q v G' H' I' rd) (fun _ _ _ _ q => q.elim) (fun _ _ _ _ q => q.elim)
theorem spWD_run {t : TS} (h : SpWD K n (wD K t N) vs H Q E) (hl : n + 1 ≤ N.length) : t { nx := fun _ H' => Q .non H', rt := Q } (L2.start N vs) H := by
  obtain ⟨G, a, ws, ds, P, rfl, e, g, dr, r, l, w, k⟩ := h
  exact w _ G H _ _ (env_startD (Iv.draw e g dr) rfl r (by omega)) (fun δ' G' H' σ' q e1 E' => k _ q .non G' H' E'.iv .non) (fun v d G' H' q e1 I' rd => k d q v G' H' I' rd) (fun _ _ _ _ q => q.elim) (fun _ _ _ _ q => q.elim)
theorem spWDL_run {t : TS} {i : Nat} (h : SpWDL K n (wDL K t N i) vs H Q E) (hl : n + 1 ≤ N.length) : t { nx := tRet (tVar i) { nx := fun _ H' => Q .non H', rt := Q }, rt := Q } (L2.start N vs) H := by
  obtain ⟨G, a, ws, ds, P, rfl, e, g, dr, r, l, w, k⟩ := h
  refine w _ G H _ _ (env_startD (Iv.draw e g dr) rfl r (by omega)) (fun δ' G' H' σ' q e1 E' => ?_) (fun _ _ _ _ q => q.elim) (fun _ _ _ _ q => q.elim) (fun _ _ _ _ q => q.elim)
  obtain ⟨es, h1, h2⟩ := q
  obtain ⟨l, us, q1, q2, q3, q4, q5, q6⟩ := E'.ok i _ h1
  exact ⟨.ref l, q1, k l us es G' H' h2 E'.iv q2 q4 q5 q6⟩
theorem ed_cX {W : WTX} (h : EA K B tA δ (· = ds)) (w : W ds P R) (hE : EOk K B E R) (hl : ds.length = n := by rfl) : ED K B (tCall (SpWX K n W) [] E tA) δ P := fun G H σ Ev Q q => h G H σ Ev _ fun vs es G1 H1 pd m r => by
  subst pd
  have I1 := Ev.iv.at m
  show SpWX K n W (vs ++ []) H1 Q E
  rw [List.append_nil]
  exact ⟨G1, es, P, R, I1.i0, r, hl, w, fun d po v G2 H2 J rd => q v d G2 H2 po (m.trans (I1.gmP J) Ev.iv) rd, fun C ds fs dd G2 H2 hr hf J hd => hE C ds fs dd G2 H2 hr hf (I1.at (I1.gmP J)) hd⟩
theorem ed_cX0 {W : WTX} (h : EA K B tA δ (· = ds)) (w : W ds P noR) (hl : ds.length = n := by rfl) : ED K B (tCall (SpWX K n W) [] E tA) δ P := ed_cX h w EOk.no hl
theorem ed_cXP {W : WTX} {Pa : List PyData → Prop} (h : EA K B tA δ Pa) (w : ∀ ds, Pa ds → ds.length = n ∧ W ds P R) (hE : EOk K B E R) : ED K B (tCall (SpWX K n W) [] E tA) δ P := fun G H σ Ev Q q => h G H σ Ev _ fun vs es G1 H1 pd m r => by
  have I1 := Ev.iv.at m
  obtain ⟨hl, w⟩ := w es pd
  show SpWX K n W (vs ++ []) H1 Q E
  rw [List.append_nil]
  exact ⟨G1, es, P, R, I1.i0, r, hl, w, fun d po v G2 H2 J rd => q v d G2 H2 po (m.trans (I1.gmP J) Ev.iv) rd, fun C ds fs dd G2 H2 hr hf J hd => hE C ds fs dd G2 H2 hr hf (I1.at (I1.gmP J)) hd⟩
theorem ed_cN {W : WT} (h : EA K B tA δ (· = ds)) (w : W ds P) (hl : ds.length = n := by rfl) : ED K B (tCall (SpW K n W) [] E tA) δ P := fun G H σ Ev Q q => h G H σ Ev _ fun vs es G1 H1 pd m r => by
  subst pd
  have I1 := Ev.iv.at m
  show SpW K n W (vs ++ []) H1 Q E
  rw [List.append_nil]
  exact ⟨G1, es, P, I1.i0, r, hl, w, fun d po v G2 H2 J rd => q v d G2 H2 po (m.trans (I1.gmP J) Ev.iv) rd⟩
theorem ed_cD {W : WT} {i : Nat} {Pa : List PyData → Prop} (hi : δ[i]? = some .dr) (h : EA K B tA δ Pa) (w : ∀ ds, Pa ds → ds.length = n ∧ W ds P) : ED K B (tCall (SpWD K n W) [] E (tCons (tVar i) tA)) δ P := fun G H σ Ev Q q => by
  obtain ⟨a, e1, ma⟩ := Ev.ok i _ hi
  refine ⟨.ref a, e1, h G H σ Ev _ fun vs es G1 H1 pd m r => ?_⟩
  have I1 := Ev.iv.at m
  obtain ⟨hl, w⟩ := w es pd
  show SpWD K n W ((.ref a :: vs) ++ []) H1 Q E
  rw [List.append_nil]
  exact ⟨G1, a, vs, es, P, rfl, I1.i0, (I1.dr a (.inl ma)).1, (I1.dr a (.inl ma)).2.d ma, r, hl, w, fun d po v G2 H2 J rd => q v d G2 H2 po (m.trans (I1.gmD ma J) Ev.iv) rd⟩
theorem ed_cDd {W : WT} {i : Nat} (hi : δ[i]? = some .dr) (h : EA K B tA δ (· = ds)) (w : W ds P) (hl : ds.length = n := by rfl) : ED K B (tCall (SpWD K n W) [] E (tCons (tVar i) tA)) δ P := ed_cD hi h fun es e => by rw [e]; exact ⟨hl, w⟩
theorem el_cDL {W : WL} {i : Nat} {Pa : List PyData → Prop} {Pl : List PyData → Prop} (hi : δ[i]? = some .dr) (h : EA K B tA δ Pa) (w : ∀ ds, Pa ds → ds.length = n ∧ W ds Pl) : EL K B (tCall (SpWDL K n W) [] E (tCons (tVar i) tA)) δ Pl := fun G H σ Ev Q q => by
  obtain ⟨a, e1, ma⟩ := Ev.ok i _ hi
  refine ⟨.ref a, e1, h G H σ Ev _ fun vs es G1 H1 pd m r => ?_⟩
  have I1 := Ev.iv.at m
  obtain ⟨hl, w⟩ := w es pd
  show SpWDL K n W ((.ref a :: vs) ++ []) H1 Q E
  rw [List.append_nil]
  exact ⟨G1, a, vs, es, Pl, rfl, I1.i0, (I1.dr a (.inl ma)).1, (I1.dr a (.inl ma)).2.d ma, r, hl, w, fun p us fs G2 H2 po J hp gp hu rd => q p us fs G2 H2 po (m.trans (I1.gmD ma J) Ev.iv) (back Ev.iv m hp) gp hu rd⟩
def tRz (b : Bool) (C : Addr) (f : Str) (ta : TA) (E : XK) : TS := match b with
  | true => fun _ σ H => tMkO C (spErr C f) [] ta σ H fun cls d H2 => E cls d H2
  | false => tNever
inductive Fv : PyData → Prop
  | i (n : Int) : Fv (.int n)
  | s (x : Str) : Fv (.str x)
  | n : Fv .none
  | b (k : Bool) : Fv (.bool k)
  | t (d : PyData) : Fv d
theorem sd_rz {C : Addr} {f : Str} {d : PyData} {Po' : Po} (h : ED K B te δ (· = d)) (_ : Fv d) (hE : EOk K B E R) (hR : R C [(f, d)]) : SD K B (tRz true C f (tCons te tNil) E) δ Po' := fun G H σ D Ev _ _ _ _ => h G H σ Ev _ fun w d' G1 H1 pd m r => by
  subst pd
  refine ⟨by show 1 ≤ 1000; decide, fun a ha => ?_⟩
  refine ⟨a, w, rfl, upd_same, fun dx hdx hne => ?_⟩
  have hdx1 : H1 dx = none := by rw [upd_ne hne] at hdx; exact hdx
  refine ⟨rfl, dx, [(f, w)], upd_same, by rw [upd_ne hne]; exact upd_same, hdx1, ?_⟩
  have I1 := Ev.iv.at m
  have e : upd (del (upd (upd (upd H1 a (exo a C none)) dx (exd dx [(f, w)])) a (exo a C (some dx))) a) dx (.xd [(f, w)]) = upd H1 dx (.xd [(f, w)]) := by
    funext b
    by_cases hb : b = dx
    · subst hb
      rw [upd_same, upd_same]
    · rw [upd_ne hb, upd_ne hb]
      by_cases hb2 : b = a
      · subst hb2
        rw [del_same, ha]
      · rw [del_ne hb2, upd_ne hb2, upd_ne hb, upd_ne hb2]
  rw [e]
  exact hE C [(f, d')] [(f, w)] (some dx) G1 _ hR ⟨rfl, .one r⟩ (I1.at (Gm.newH I1 hdx1)) upd_same
end
section
variable {P : Program} {w : World} {K : PySem.W.Frag} {mg : Str → Option Value} {base : Heap} {x qual : Str} {st : Stmt} {f : Addr} {fd : FuncData} {N ps : List Str} {k : Nat}
theorem okWX {t : XK → TS} (F : FnP K x qual st f fd) (S : FnScope N ps (defScope st))
    (d : ∀ (cdv : Value) (A : Around) (outer : List Env) (s : Shared) (H : Hp) (E : XK), Room k (A.deeper (envOfC qual (defScope st) s.heap.objs.size f cdv)) → PSs (cxOf (L2.CX P w) P w K mg base N qual (defScope st) f cdv A outer s H E) (defBody st) (t E))
    (hN : ps.length ≤ N.length) : FnOk P w K mg base (L2.CX P w) (k + 1) f fd ps (SpWX K ps.length (wX K t N)) :=
  F.ok S (fun vs H Q E ⟨G, ds, P, R, e, r, l, _⟩ => by rw [r.length, l]) fun cdv A outer s H vs Q E hr h => ⟨t E, d cdv A outer s H E hr, spWX_run h hN⟩
theorem okW {t : TS} (F : FnP K x qual st f fd) (S : FnScope N ps (defScope st))
    (d : ∀ (cdv : Value) (A : Around) (outer : List Env) (s : Shared) (H : Hp) (E : XK), Room k (A.deeper (envOfC qual (defScope st) s.heap.objs.size f cdv)) → PSs (cxOf CX0 P w K mg base N qual (defScope st) f cdv A outer s H E).nox (defBody st) t)
    (hN : ps.length ≤ N.length) : FnOk P w K mg base CX0 (k + 1) f fd ps (SpW K ps.length (wN K t N)) :=
  F.ok S (fun vs H Q E ⟨G, ds, P, e, r, l, _⟩ => by rw [r.length, l]) fun cdv A outer s H vs Q E hr h => ⟨t, PSs.nox (d cdv A outer s H E hr), spW_run h hN⟩
theorem okWD {t : TS} {n : Nat} (F : FnP K x qual st f fd) (S : FnScope N ps (defScope st))
    (d : ∀ (cdv : Value) (A : Around) (outer : List Env) (s : Shared) (H : Hp) (E : XK), Room k (A.deeper (envOfC qual (defScope st) s.heap.objs.size f cdv)) → PSs (cxOf CX0 P w K mg base N qual (defScope st) f cdv A outer s H E).nox (defBody st) t)
    (hn : n + 1 = ps.length) (hN : ps.length ≤ N.length) : FnOk P w K mg base CX0 (k + 1) f fd ps (SpWD K n (wD K t N)) :=
  F.ok S (fun vs H Q E ⟨G, a, ws, ds, P, e, _, _, _, r, l, _⟩ => by rw [e, List.length_cons, r.length, l, hn]) fun cdv A outer s H vs Q E hr h => ⟨t, PSs.nox (d cdv A outer s H E hr), spWD_run h (by omega)⟩
theorem okWDL {t t0 : TS} {n i : Nat} (F : FnP K x qual st f fd) (S : FnScope N ps (defScope st))
    (d : ∀ (cdv : Value) (A : Around) (outer : List Env) (s : Shared) (H : Hp) (E : XK), Room k (A.deeper (envOfC qual (defScope st) s.heap.objs.size f cdv)) → PSs (cxOf CX0 P w K mg base N qual (defScope st) f cdv A outer s H E).nox (defBody st) t0)
    (ht : ∀ D σ H, t0 D σ H = t { D with nx := tRet (tVar i) D } σ H) (hn : n + 1 = ps.length) (hN : ps.length ≤ N.length) : FnOk P w K mg base CX0 (k + 1) f fd ps (SpWDL K n (wDL K t N i)) :=
  F.ok S (fun vs H Q E ⟨G, a, ws, ds, P, e, _, _, _, r, l, _⟩ => by rw [e, List.length_cons, r.length, l, hn]) fun cdv A outer s H vs Q E hr h => ⟨t0, PSs.nox (d cdv A outer s H E hr), by rw [ht]; exact spWDL_run h (by omega)⟩
end
def RzOk (P : Program) (w : World) (K : PySem.W.Frag) (mg : Str → Option Value) (base : Heap) (b : Bool) (C : Addr) (x f : Str) : Prop := b = true → Err P w K mg base C f 1 ∧ mg x = some (.ref C)
section
variable {X : Cx} {x f : Str} {C : Addr} {b : Bool} {e : Expr} {es : List Expr} {ta : TA} {j k : Nat} {p pos pos2 : Pos} {E : XK}
theorem ps_rz (hc : X.calm = true) (tk : Takes X (fun cls d _ H => E cls d H)) (e0 : RzOk X.prog X.w X.K X.mg X.base b C x f) (hr : Room j X.A) (hj : 2 ≤ j) (ha : PA X [e] ta) (hg : Gl X x := by rfl)
    (hdb : (x == ("__debug__" : Str)) = false := by decide) (he : starEach [e] X.env = (false, eval e X.env) :: starEach [] X.env := by rfl) (hpl : (backTo pos (starEach [] X.env)).any (·.1) = false := by rfl) : PS X (.Raise (some (.Call (.Name x p) [e] [] pos)) none pos2) (tRz b C f ta E) := by
  cases b with
  | false => exact ps_never
  | true =>
    obtain ⟨T, hm⟩ := e0 rfl
    exact ps_raise hc tk (pmk_err T hr hj hg hm ha hdb he hpl)
theorem pe_calE {ps : List Str} {sp : Sp} (C : CalX X.prog X.w X.K X.mg X.base x k ps sp) (hr : Room j X.A) (hj : k ≤ j) (hg : Gl X x) (ps0 : Passes (L2.CX X.prog X.w) X E)
    (ha : PA X (e :: es) ta) (hdb : (x == ("__debug__" : Str)) = false := by decide) (he : starEach (e :: es) X.env = (false, eval e X.env) :: starEach es X.env := by rfl) (hpl : (backTo pos (starEach es X.env)).any (·.1) = false := by rfl) : PE X (.Call (.Name x p) (e :: es) [] pos) (tCall sp [] E ta) := by
  obtain ⟨f, fd, h1, h2, h3, h4⟩ := C.ex
  exact pe_call h4 (hr.mono hj) hg h1 h2 h3 .nil ps0 ha hdb he hpl
end
def CalMX (P : Program) (w : World) (K : PySem.W.Frag) (mg : Str → Option Value) (base : Heap) (C : Addr) (m : Str) (k : Nat) (ps : List Str) (sp : Sp) : Prop := Cls K C ∧ ∃ g fd, Meth K C m g ∧ Binds K fd ps [] ∧ FnOk P w K mg base (L2.CX P w) k g fd ps sp
def CalIX (P : Program) (w : World) (K : PySem.W.Frag) (mg : Str → Option Value) (base : Heap) (C : Addr) (k : Nat) (ps : List Str) (sp : Sp) : Prop := ∃ g fd, Mk K C g ∧ Binds K fd ps [] ∧ FnOk P w K mg base (L2.CX P w) k g fd ps sp
def tMethUX (R : Addr → Sp → Prop) (m : Str) (E : XK) (ta : TE) (t : TA) : TE := fun σ H Q => ta σ H fun x H1 => ∃ (a C dx : Addr) (fs : List (Str × V)) (sp : Sp), x = .ref a ∧ H1 a = some (.ins C dx fs) ∧ fs.lookup m = none ∧ R C sp ∧ t σ H1 fun vs H2 => sp (.ref a :: (vs ++ [])) H2 Q E
section
variable {X : Cx} {R : Addr → Sp → Prop} {o e : Expr} {es : List Expr} {ta : TE} {t : TA} {m f : Str} {k j : Nat} {ps : List Str} {apos pos : Pos} {E : XK}
theorem pe_methUX {pl : Sem Bool} (hR : ∀ C sp, R C sp → CalMX X.prog X.w X.K X.mg X.base C m k ps sp) (he : PE X o ta) (hr : Room j X.A) (hj : k ≤ j) (ps0 : Passes (L2.CX X.prog X.w) X E) (ha : PA X (e :: es) t)
    (hst : starEach (e :: es) X.env = (false, eval e X.env) :: starEach es X.env := by rfl) (hpl : (backTo pos (starEach es X.env)).any (·.1) = false := by rfl)
    (ht : eval (.Call (.Attribute o m apos) (e :: es) [] pos) X.env = (do
      let ov ← eval o X.env
      standAt apos.atName; let (f, first) ← holding [ov] (getMethod ov m pl)
      callWith pos f first (backTo pos (starEach (e :: es) X.env)) (backToKw pos (keywordEach [] X.env))) := by rfl) : PE X (.Call (.Attribute o m apos) (e :: es) [] pos) (tMethUX R m E ta t) := by
  refine ⟨fun pins s σ H Q I h => PySem.W.methodCall_KW (pl := pl) (thn (he.run pins s σ H _ I h) fun u s1 ⟨x, H1, I1, rx, a, C, dx, fs, sp, ex, ea, l, hC, q⟩ => ?_) ht⟩
  subst ex
  cases (show u = Value.ref a from rx)
  obtain ⟨c, g, fd, hm, hb, F⟩ := hR C sp hC
  refine getmeth_ok I1 ea c hm l (PySem.W.callWith_K (first := [.ref a]) (h₀ := X.base) I.ok.mod.kin hm.kp (thn (ha.run pos pins s1 σ H1 _ I1 q) fun us s2 ⟨vs, H2, I2, r, q2⟩ => ⟨I2.kIn, ?_⟩) hst hpl)
  exact run_fn (us := .ref a :: us) (vs := .ref a :: vs) F (hr.mono hj) hb .nil ps0 I2 (.cons rfl r) q2
end
section
variable {K : PySem.W.Frag} {B : Base} {δ : En} {te : TE} {tA : TA} {P : Pd} {R : XR} {E : XK} {U : Addr → Sp → Prop} {es : List PyData} {n : Nat}
theorem ed_mX {C : Addr} {m : Str} {ns : List Str} {ds : List PyData} {W : WTX} (hU : U C (SpWX K n W)) (hm : m ∉ ns) (h : ED K B te δ (· = eIn C ns ds)) (ha : EA K B tA δ (· = es)) (w : W (eIn C ns ds :: es) P R) (hE : EOk K B E R) (hl : (eIn C ns ds :: es).length = n := by rfl) : ED K B (tMethUX U m E te tA) δ P := fun G H σ Ev Q q =>
  h G H σ Ev _ fun v d' G1 H1 e m1 r => by
    subst e
    obtain ⟨a, dx, fs, rfl, hA, hn, rs⟩ := ins_of r
    refine ⟨a, C, dx, fs, _, rfl, m1.gh _ _ hA, lookup_none (by rw [hn]; exact hm), hU, ha G1 H1 σ (Ev.at m1) _ fun vs fs G2 H2 pe m2 rv => ?_⟩
    subst pe
    have I2 := (Ev.at m1).iv.at m2
    have mm := m1.trans m2 Ev.iv
    rw [List.append_nil]
    exact ⟨G2, _, P, R, I2.i0, .cons (r.mono m2.gg) rv, hl, w, fun d po v G3 H3 J rd => q v d G3 H3 po (mm.trans (I2.gmP J) Ev.iv) rd, fun C ds fs dd G3 H3 hr hf J hd => hE C ds fs dd G3 H3 hr hf (I2.at (I2.gmP J)) hd⟩
theorem ed_pN {C : Addr} {ns : List Str} {ds : List PyData} {W : WT} (hU : U C (SpW K 1 W)) (h : ED K B te δ (· = eIn C ns ds)) (w : W [eIn C ns ds] P) : ED K B (tPropU U te) δ P := fun G H σ Ev Q q =>
  h G H σ Ev _ fun v d' G1 H1 e m r => by
    subst e
    obtain ⟨a, dx, fs, rfl, ha, hn, rs⟩ := ins_of r
    have I1 := Ev.iv.at m
    exact ⟨a, C, dx, fs, _, rfl, m.gh _ _ ha, hU, G1, [eIn C ns ds], P, I1.i0, .one r, rfl, w, fun d po v G2 H2 J rd => q v d G2 H2 po (m.trans (I1.gmP J) Ev.iv) rd⟩
end
end DL
namespace DL
variable [Tb]
open PySem PySem.Spec PyProof.Rows L2 Evl
structure Cls1 where
  c : Value
  i : Nat
  ts : Addr → Value → Option Addr → TS
def gone (D : Ends) (i : Nat) : Ends := { nx := fun z Y => D.nx (z.set i none) Y, rt := D.rt, bk := fun z Y => D.bk (z.set i none) Y, ct := fun z Y => D.ct (z.set i none) Y }
def wNm (K : PySem.W.Frag) (Wo : WX) (D : Ends) : List Cls1 → WX
  | [] => Wo
  | k :: r => fun cls d z Y => ∃ b, PySem.W.exmOne K cls k.c = some b ∧ (b = true → ∀ p, Y p = none → k.ts p cls d (gone D k.i) (z.set k.i (some (.ref p))) Y) ∧ (b = false → wNm K Wo D r cls d z Y)
inductive NmOk (X : Cx) : List ExceptHandler → List Cls1 → Prop
  | nil : NmOk X [] []
  | cons {x n : Str} {k : Cls1} {b₀ : Stmt} {bs : List Stmt} {p1 p2 : Pos} {hs : List ExceptHandler} {r : List Cls1} (hc : Names X x k.c) (hi : X.N[k.i]? = some n) (hn : X.env.kindOf n = some .local)
      (su : ∀ (p : Addr) (o : Obj) (cls : Value) (d : Option Addr) (pn : List (Addr × Obj)), Zc cls d o → (∃ us, o.data = .fields us) → PSs (X.suite p ((p, o) :: pn)) (b₀ :: bs) (k.ts p cls d)) (t : NmOk X hs r) :
      NmOk X (.ExceptHandler (some (.Name x p1)) (some n) (b₀ :: bs) p2 :: hs) (k :: r)
  | cons0 {x : Str} {k : Cls1} {b₀ : Stmt} {bs : List Stmt} {p1 p2 : Pos} {hs : List ExceptHandler} {r : List Cls1} (hc : Names X x k.c) (hi : X.N.length ≤ k.i)
      (su : ∀ (p : Addr) (o : Obj) (cls : Value) (d : Option Addr) (pn : List (Addr × Obj)), Zc cls d o → (∃ us, o.data = .fields us) → PSs (X.suite p ((p, o) :: pn)) (b₀ :: bs) (k.ts p cls d)) (t : NmOk X hs r) :
      NmOk X (.ExceptHandler (some (.Name x p1)) none (b₀ :: bs) p2 :: hs) (k :: r)
section
variable {X : Cx} {bd : List Stmt} {h0 : ExceptHandler} {hs : List ExceptHandler} {ks : List Cls1} {ps : Pos} {tb : WX → TS} {Wo : WX}
theorem ps_try_nm (e1 : X.stack = X.env :: X.outer) (e2 : X.env.frame = some X.env.locals) (nd : X.N.Nodup) (tk : Takes X Wo)
    (hb : ∀ (W : WX) (pn : List (Addr × Obj)) (xe : Value → Shared → Prop), Takes (X.tr pn xe) W → PassesOwn (model X.prog X.w) X.A X.env xe → PSs (X.tr pn xe) bd (tb W)) (hh : NmOk X (h0 :: hs) ks) : PS X (.Try bd (h0 :: hs) [] [] ps) (fun D z Y => tb (wNm X.K Wo D ks) D z Y) := by
  refine ⟨fun pins s z Y D I hyp => ?_⟩
  have ok := I.ok
  have fr : X.A.frames = some (X.env :: X.outer) := ok.frames.trans (by rw [e1])
  refine wpAny_Try_except (wpAny_mono ((hb (wNm X.K Wo D ks) (X.pn ++ pins)
    (fun e t1 => wpAny (model X.prog X.w) X.A (noteFrame e X.env) (fun _ t2 => wpAny (model X.prog X.w) X.A (setFlight e none) (fun _ t3 => wpAny (model X.prog X.w) X.A (handleBy e X.env (h0 :: hs)) (SP X pins D) X.xe t3) X.xe t2) X.xe t1)
    (fun u t xx => ?_) PassesOwn.looking).run [] s z Y D (I.toTry _) hyp) (fun fl t q => ?_) fun _ _ q => q)
  · obtain ⟨p, Bh, tI, pin2, z2, Y2, cls, d, rfl, J0, nb, up, sky, na, os, ag, wish⟩ := xx
    have J : Inv X pins z2 Y2 tI := J0.ofTry ok
    show wpAny (model X.prog X.w) X.A (noteFrame (.ref p) X.env) _ _ _
    refine Sky.land Zc.steady fr e2 (by rw [← e1]; exact sky) fun g3 f3 up3 => ?_
    have J3 : Inv X pins z2 Y2 { t with heap := g3 } := J.landed nb f3.1 (up.trans up3) os ag
    obtain ⟨o3, us3, ho3, hz3, hd3⟩ := f3.there
    have off : p ∉ frs (X.env :: X.outer) := fun hm => by
      obtain ⟨_, o', q', hnf⟩ := f3.2.2.1.mem hm
      rw [ho3] at q'
      cases q'
      exact hnf _ hd3
    have offL : p ≠ X.env.locals := fun q => off (List.mem_filterMap.mpr ⟨X.env, .head _, q ▸ e2⟩)
    have offF : p ∉ X.fs := fun hm => (List.mem_filterMap.mp hm).elim fun e q => off (List.mem_filterMap.mpr ⟨e, .tail _ q.1, q.2⟩)
    have S3 := J3.suite ho3 hd3 na offL offF
    have go : ∀ {gs : List ExceptHandler} {rs : List Cls1}, NmOk X gs rs → wNm X.K Wo D rs cls d z2 Y2 → wpAny (model X.prog X.w) X.A (handleBy (.ref p) X.env gs) (SP X pins D) X.xe { t with heap := g3 } := by
      intro gs rs hk
      induction hk with
      | nil =>
        intro wn
        refine wpAny_handleBy_nil ?_
        obtain ⟨_, _, _, oe, us, T, oT, ts2, ho, _, hd, h1, _⟩ := id f3
        unfold PySem.passOn
        refine wpAny_bind (wpAny_field ho hd h1 ?_)
        rw [if_neg (show ¬ (Value.ref T == Value.none) = true by simp)]
        have last : wpAny (model X.prog X.w) X.A (setFlight (.ref p) X.env.frame) (fun _ t4 => wpAny (model X.prog X.w) X.A (throw (.ref p) : Sem Flow) (SP X pins D) X.xe t4) X.xe { t with heap := g3 } := by
          rw [e2]
          exact HandSPX.setFlight_upZ f3 fun g4 hh4 up4 => wpAny_throw (tk _ _ ⟨p, Bh, tI, pins, z2, Y2, cls, d, rfl, J, nb, (up.trans up3).trans up4, .inr (.inr (by rw [e1]; exact hh4)), na, os, ag, wn⟩)
        first
          | exact wpAny_bind (wpAny_pure (wpAny_bind last))
          | exact wpAny_bind last
      | @cons x n k b0 bs p1 p2 gs2 rs2 hc hi hn su r ih =>
        intro wn
        obtain ⟨b, hb1, yes, no⟩ := wn
        refine wpAny_handleBy_cons (codeAny_handlers_test ?_) (by intro q; cases q)
        have lk : PySem.W.Looks (model X.prog X.w) g3 (typeOf (.ref p)) cls := fun A Q E t' kk q => wpAny_typeOf_ref (kk _ _ ho3) (by rw [hz3.1]; exact q)
        have lm := PySem.W.exm_one (M := model X.prog X.w) J3.kIn lk hb1
        have tst : ∀ {Q E : Value → Shared → Prop}, Q k.c { t with heap := g3 } → wpAny (model X.prog X.w) (X.A.mark (some (.ref p))) (eval (.Name x p1) X.env) Q E { t with heap := g3 } := fun {Q E} q => by
          obtain ⟨hg, hdb, hm | ⟨hm, hv, hnn⟩⟩ := hc
          · exact ld_glob (X := X.suite p ((p, o3) :: (X.pn ++ pins))) S3 hg hm q hdb
          · exact ld_blt (X := X.suite p ((p, o3) :: (X.pn ++ pins))) S3 hg hm hv q hnn hdb
        refine tst (lm.here ?_)
        cases b with
        | true =>
          refine codeAny_handlers_suite_as (HandSPX.lands_againZ f3 fun g4 f4 up4 => ?_)
          have J4 : Inv X pins z2 Y2 { t with heap := g4 } := J.landed nb f4.1 ((up.trans up3).trans up4) os ag
          obtain ⟨o4, us4, ho4, hz4, hd4⟩ := f4.there
          have S4 := J4.suite ho4 hd4 na offL offF
          refine store_ok (X := X.suite p ((p, o4) :: (X.pn ++ pins))) (v := .ref p) S4 nd hi (.inl hn) rfl (fun t5 S5 => ?_) (.inr hn)
          refine wpAny_mono ((su p o4 cls d (X.pn ++ pins) hz4 ⟨_, hd4⟩).run [] t5 _ Y2 _ S5 (yes rfl p na)) (fun fl t6 q6 => ?_) (fun _ _ q => q.elim)
          have fin : ∀ {z6 : L2.St} {Y6 : Hp} {Q : Shared → Prop}, Inv (X.suite p ((p, o4) :: (X.pn ++ pins))) [] z6 Y6 t6 → (∀ t7, Inv X pins (z6.set k.i none) Y6 t7 → Q t7) →
              wpAny (model X.prog X.w) X.A (do bindName X.env n .none; unbindBehindTheSuite X.env n p2) (fun _ t7 => Q t7) X.xe t6 := fun S6 hq => gone_ok (S6.unsuite ok) nd hi hn hq
          cases fl with
          | next => exact q6.elim fun z6 q => q.elim fun Y6 q => fin q.1 fun _ J7 => ⟨_, _, J7, q.2⟩
          | brk => exact q6.elim fun z6 q => q.elim fun Y6 q => fin q.1 fun _ J7 => ⟨_, _, J7, q.2⟩
          | cont => exact q6.elim fun z6 q => q.elim fun Y6 q => fin q.1 fun _ J7 => ⟨_, _, J7, q.2⟩
          | ret u => exact q6.elim fun v6 q => q.elim fun z6 q => q.elim fun Y6 q => fin q.1 fun _ J7 => ⟨_, _, _, J7, q.2.1, q.2.2⟩
        | false => exact ih (no rfl)
      | @cons0 x k b0 bs p1 p2 gs2 rs2 hc hi su r ih =>
        intro wn
        obtain ⟨b, hb1, yes, no⟩ := wn
        refine wpAny_handleBy_cons (codeAny_handlers_test ?_) (by intro q; cases q)
        have lk : PySem.W.Looks (model X.prog X.w) g3 (typeOf (.ref p)) cls := fun A Q E t' kk q => wpAny_typeOf_ref (kk _ _ ho3) (by rw [hz3.1]; exact q)
        have lm := PySem.W.exm_one (M := model X.prog X.w) J3.kIn lk hb1
        have tst : ∀ {Q E : Value → Shared → Prop}, Q k.c { t with heap := g3 } → wpAny (model X.prog X.w) (X.A.mark (some (.ref p))) (eval (.Name x p1) X.env) Q E { t with heap := g3 } := fun {Q E} q => by
          obtain ⟨hg, hdb, hm | ⟨hm, hv, hnn⟩⟩ := hc
          · exact ld_glob (X := X.suite p ((p, o3) :: (X.pn ++ pins))) S3 hg hm q hdb
          · exact ld_blt (X := X.suite p ((p, o3) :: (X.pn ++ pins))) S3 hg hm hv q hnn hdb
        refine tst (lm.here ?_)
        cases b with
        | true =>
          refine codeAny_handlers_suite (HandSPX.lands_againZ f3 fun g4 f4 up4 => ?_)
          have J4 : Inv X pins z2 Y2 { t with heap := g4 } := J.landed nb f4.1 ((up.trans up3).trans up4) os ag
          obtain ⟨o4, us4, ho4, hz4, hd4⟩ := f4.there
          have S4 := J4.suite ho4 hd4 na offL offF
          have zz : ∀ {z : L2.St} {v : Option V}, z.length = X.N.length → z.set k.i v = z := fun h => List.set_eq_of_length_le (by omega)
          have y0 := yes rfl p na
          rw [zz J4.len] at y0
          refine wpAny_mono ((su p o4 cls d (X.pn ++ pins) hz4 ⟨_, hd4⟩).run [] _ _ Y2 _ S4 y0) (fun fl t6 q6 => ?_) (fun _ _ q => q.elim)
          have gn : ∀ {z6 : L2.St} {Y6 : Hp}, Inv (X.suite p ((p, o4) :: (X.pn ++ pins))) [] z6 Y6 t6 → z6.set k.i none = z6 := fun S6 => zz (S6.unsuite ok).len
          cases fl with
          | next =>
            obtain ⟨z6, Y6, S6, q⟩ := q6
            exact ⟨_, _, S6.unsuite ok, by rw [← gn S6]; exact q⟩
          | brk =>
            obtain ⟨z6, Y6, S6, q⟩ := q6
            exact ⟨_, _, S6.unsuite ok, by rw [← gn S6]; exact q⟩
          | cont =>
            obtain ⟨z6, Y6, S6, q⟩ := q6
            exact ⟨_, _, S6.unsuite ok, by rw [← gn S6]; exact q⟩
          | ret u =>
            obtain ⟨v6, z6, Y6, S6, r6, q⟩ := q6
            exact ⟨_, _, _, S6.unsuite ok, r6, q⟩
        | false => exact ih (no rfl)
    exact go hh wish
  · cases fl with
    | next => exact q.elim fun z6 q => q.elim fun Y6 q => wpAny_execs_nil ⟨z6, Y6, q.1.ofTry ok, q.2⟩
    | brk => exact q.elim fun z6 q => q.elim fun Y6 q => ⟨z6, Y6, q.1.ofTry ok, q.2⟩
    | cont => exact q.elim fun z6 q => q.elim fun Y6 q => ⟨z6, Y6, q.1.ofTry ok, q.2⟩
    | ret u => exact q.elim fun v6 q => q.elim fun z6 q => q.elim fun Y6 q => ⟨v6, z6, Y6, q.1.ofTry ok, q.2.1, q.2.2⟩
end
end DL
namespace DL
variable [Tb]
open PySem PySem.Spec PyProof.Rows L2 Evl
theorem I0.nmu {G H : Hp} {x : Addr} {o : HO} (e : I0 G H) (hx : H x = some o) (l : LL o) : ¬ Base.mu ⟨G, H, fun _ => False⟩ x := fun z => z.elim id fun z => l (.inl (Tb.nol (e.tb x z).2 hx))
theorem Iv.i0w {B : Base} {G H : Hp} {x C dx : Addr} {fs gs : List (Str × V)} (I : Iv B G H) (gx : G x = none) (hx : H x = some (.ins C dx fs)) : I0 G (upd H x (.ins C dx gs)) := ⟨fun b o e => by
    have hb : b ≠ x := fun z => by rw [z, gx] at e; cases e
    rw [upd_ne hb]
    exact I.gh b o e, fun b m => ⟨(I.dr b (.inr m)).1, Tb.keep (fun c o e k => by
    have hc : c ≠ x := fun z => by
      rw [z, hx] at e
      cases e
      exact ll_ins k
    rw [upd_ne hc]
    exact e) ((I.dr b (.inr m)).2.t m)⟩⟩
structure Ad where
  Oneway : Addr
  Twoway : Addr
  ec : Str → Addr
  er : Str → Bool
  tP : Addr
def XfOk (K : PySem.W.Frag) (C : Addr) (f : Str) : Prop := XfC K C ∧ PySem.W.findIn K (.ref C) f = some none
def preTake (ds : List PyData) : Prop := ∃ m : Int, ds = [.int m] ∧ 0 < m
def postTake (ds : List PyData) (d : PyData) : Prop := ∀ m : Int, ds = [.int m] → ∃ r : Int, d = .int r ∧ 0 ≤ r ∧ r < m
abbrev SpTake (K : PySem.W.Frag) : Sp := SpD K preTake postTake
def spDraws (K : PySem.W.Frag) : Sp := fun vs H Q _ => ∃ (a : Addr) (ns : List Int), vs = [.ref a] ∧ SqL K H a (ns.map V.int) ∧ ns.length ≤ 63 ∧ (∀ b, Tb.tb b → Tb.ok H b) ∧ ∀ p H', DrOk H' p → (∀ b, Tb.tb b → Tb.ok H' b) → Q (.ref p) H'
def eP (p : Int × Int) : PyData := .tuple [.int p.1, .int p.2]
def eIs (l : List Int) : PyData := .list (l.map PyData.int)
def eTs (l : List (Int × Int)) : PyData := .list (l.map eP)
def eU (l : List Int) : PyData := .tuple (l.map PyData.int)
def eV (l : List (Int × Int)) : PyData := .tuple (l.map eP)
def InR (n : Int) (ts : List (Int × Int)) : Prop := ∀ p ∈ ts, 0 ≤ p.1 ∧ p.1 < n ∧ 0 ≤ p.2 ∧ p.2 < n
abbrev nmNet : List Str := ["size", "ties"]
def eNet (C : Addr) (n : Int) (ts : List (Int × Int)) : PyData := eIn C nmNet [.int n, eV ts]
def spInit (K : PySem.W.Frag) (C : Addr) : Sp := fun vs H Q _ => ∃ (G : Hp) (x dx : Addr) (n : Int) (tv : V) (ts : List (Int × Int)), vs = [.ref x, .int n, tv] ∧ I0 G H ∧ G x = none ∧ H x = some (.ins C dx []) ∧ Rp K G tv (eTs ts) ∧ 1 ≤ n ∧ n ≤ 12 ∧ InR n ts ∧ ts.length ≤ 40 ∧
  ∀ (G' H' : Hp) (tv' : V), Ex G G' → I0 G' H' → G' x = none → (∀ b o, H b = some o → b ≠ x → ¬ Tb.tb b → H' b = some o) → (∀ b, H b ≠ none → G b = none → G' b = none) → H' x = some (.ins C dx [("size", .int n), ("ties", tv')]) → Rp K G' tv' (eV ts) → Q .non H'
end DL
namespace DL
variable [Tb]
open PySem PySem.Spec PyProof.Rows L2 Evl
section
variable {prog : Program} {w : World} {A : Around} {E : Value → Shared → Prop} {s : Shared}
theorem gather_tup {p : Addr} {us : List Value} {Q : List Value → Shared → Prop} (ht : s.heap.IsTuple p us.toArray) (hz : us.length ≤ sizeLine)
    (k : Q us { s with heap := (s.heap.push (seqObj "list" #[] 0)).update s.heap.objs.size (Obj.mapSeq (· ++ us.toArray)) }) : wpAny (model prog w) A (collect (.ref p)) Q E s := by
  obtain ⟨ob, hob, cl, n, dt⟩ := id ht
  unfold collect
  refine wpAny_bind (wpAny_runValue (codeAny_builtin entry_proto_collect' ?_))
  show wpAny _ _ (do again (.builtin "list.__iadd__" ⟨[← newList [], .ref p], []⟩)) _ _ s
  refine wpAny_bind (wpAny_newList (wpAny_pure ⟨Code.quiet_builtin _ (by decide +kernel), codeAny_builtin entry_list_iadd' ?_⟩))
  show wpAny _ _ (Builtin.List.listExtendWith (.ref s.heap.objs.size) (.ref p) (.ref s.heap.objs.size)) _ _ _
  unfold Builtin.List.listExtendWith
  have hob2 : (s.heap.push (seqObj "list" #[] 0)).get? p = some ob := Heap.get?_push_of_some _ hob
  refine wpAny_bind (wpAny_typeOf (T := "tuple") ⟨ob, hob2, cl⟩ ?_)
  rw [if_pos (by simp)]
  refine wpAny_bind (listItems_at hob2 dt ?_)
  refine wpAny_bind (listItems_at (xs := #[]) (n := 0) (Heap.get?_push_size _ rfl) rfl ?_)
  rw [if_neg (by simp)]
  refine wpAny_bind (listUpdate_at (xs := #[]) (n := 0) (Heap.get?_push_size _ rfl) rfl (wpAny_pure ?_) (Nat.zero_le _) (by show (#[] ++ us.toArray).size ≤ _; simp only [Array.size_append, List.size_toArray, List.length_nil]; omega))
  show wpAny (model prog w) A (do
      let o ← load s.heap.objs.size
      match o.data with
      | .seq ys _ => pure ys.toList
      | _ => unsupported "internal:collect") Q E _
  refine wpAny_bind (wpAny_load (get?_update_seq (Heap.get?_push_size _ rfl) _) ?_)
  show wpAny _ _ (pure ((#[] : Array Value) ++ us.toArray).toList) Q E _
  rw [show ((#[] : Array Value) ++ us.toArray).toList = us by simp]
  exact wpAny_pure k
theorem sorted_tup {p : Addr} {us : List Value} {ns : List Int} {Q : Value → Shared → Prop} (ht : s.heap.IsTuple p us.toArray) (hI : IntsAre us ns) (hz : us.length < 64)
    (k : ∀ (out : Array Value) (ms : List Int), IntsAre out.toList ms → ms.Perm ns → ms.Pairwise (· ≤ ·) → Q (.ref (s.heap.objs.size + 1)) { s with heap := sortedAll s.heap us out }) : wpAny (model prog w) A (call (.builtin "sorted") [.ref p]) Q E s := by
  refine Calls.call_function_entry kind_sorted plain_sorted entry_sorted (args_sorted1 _) ?_
  unfold Builtin.«sorted»
  refine wpAny_bind (m := checkCount "sorted" 1 1 _) (wpAny_pure (wpAny_bind (gather_tup ht (small64 hz) (wpAny_bind (wpAny_newList ?_)))))
  have e1 : ((s.heap.push (seqObj "list" #[] 0)).update s.heap.objs.size (Obj.mapSeq (· ++ us.toArray))).objs.size = s.heap.objs.size + 1 := by rw [Heap.size_update, size_push']
  have e2 : (((s.heap.push (seqObj "list" #[] 0)).update s.heap.objs.size (Obj.mapSeq (· ++ us.toArray))).push (seqObj "list" us.toArray 0)).get? (s.heap.objs.size + 1) = some (seqObj "list" us.toArray 0) := by
    rw [← e1]; exact Heap.get?_push_size _ rfl
  show wpAny _ _ _ _ _ { s with heap := ((s.heap.push (seqObj "list" #[] 0)).update s.heap.objs.size (Obj.mapSeq (· ++ us.toArray))).push (seqObj "list" us.toArray 0) }
  rw [e1]
  exact wpAny_bind (wpAny_holding (wpAny_call_entry slot_list_sort ⟨_, e2, rfl⟩ entry_list_sort (list_sort_tree e2 hI hz fun out ms a1 a2 a3 => ⟨_, rfl, wpAny_pure ⟨_, rfl, k out ms a1 a2 a3⟩⟩) (args_list_sort _)))
end
def rSortedQ (K : PySem.W.Frag) : List V → Hp → VK → Prop := fun vs H Q => ∃ (a : Addr) (ns : List Int), vs = [V.ref a] ∧ (SqL K H a (ns.map V.int) ∨ SqT K H a (ns.map V.int)) ∧ ns.length < 64 ∧
  ∀ (ms : List Int) (p : Addr), ms.Perm ns → ms.Pairwise (· ≤ ·) → H p = none → Q (.ref p) (upd H p (.lst (ms.map V.int)))
theorem cr_sortedQ {X : Cx} : CallR X (.builtin "sorted") (rSortedQ X.K) := by
  intro pins s σ H vs us Q I r h
  obtain ⟨a, ns, rfl, hs, h64, q⟩ := h
  rcases hs with hs | hs
  · exact cr_sorted pins s σ H _ us Q I r ⟨a, ns, rfl, hs, h64, q⟩
  · obtain ⟨its, rv, hl, _⟩ := I.tuple hs
    rw [Vals.ref1 r]
    have hi := rv.ints
    refine sorted_tup (show s.heap.IsTuple a its.toArray from hl) hi (by rw [hi.length]; exact h64) fun out ms b1 b2 b3 => ?_
    obtain ⟨ep, q2⟩ := PyProof.Rows.sortedAll_at s.heap its out
    have hz : (ms.map V.int).length ≤ sizeLine := by rw [List.length_map, b2.length_eq]; exact small64 h64
    exact ⟨.ref _, upd H (s.heap.objs.size + 1) (.lst (ms.map V.int)), I.laid (t' := s.toks) (fun _ _ => PyProof.Rows.sortedAll_old) (Nat.le_succ _) ⟨hz, out.toList, ep, vals_of_ints b1, q2⟩, rfl, q ms _ b2 b3 (I.hok.fresh (Nat.le_succ _))⟩
end DL
namespace DL
variable [Tb]
open PySem PySem.Spec PyProof.Rows L2 Evl
def iEnumS (K : PySem.W.Frag) (ta : TA) : TI := fun σ H R => ta σ H fun vs H1 => ∃ a xs, vs = [.ref a] ∧ ((SqL K H1 a xs ∧ R (Ite K a) H1) ∨ (SqT K H1 a xs ∧ R (Itet K a) H1))
theorem pi_enumS {X : Cx} {e : Expr} {ta : TA} {p pos tpos : Pos} {elts : List Expr} {kk : Nat} (hg : Gl X "enumerate") (hm : X.mg "enumerate" = none) (ha : PA X [e] ta) (hs : starEach [e] X.env = [(false, eval e X.env)] := by rfl) : PI X (.Tuple elts kk tpos) (.Call (.Name "enumerate" p) [e] [] pos) (iEnumS X.K ta) := by
  refine ⟨fun pins s σ H R I h => Call_ (ld_blt I hg hm boot_enumerate (PyProof.Rows.callWith_type1 (thn (ha.run pos pins s σ H _ I h) fun us s1 ⟨vs, H1, I1, r1, q1⟩ => ?_) hs rfl))⟩
  obtain ⟨a, xs, ex, q⟩ := q1; subst ex
  cases r1 with
  | cons r rr =>
    cases rr; cases r
    rcases q with ⟨hq, q⟩ | ⟨hq, q⟩
    · obtain ⟨its, rv, p', hz⟩ := I1.list hq
      refine call_enumerate_list p'.isList fun h' he hit hsz hk => wpAny_pyIter_enum he ?_
      have I2 : Inv X pins σ H1 { s1 with heap := h' } := I1.kept (t' := s1.toks) hk
      refine ⟨s1.heap.objs.size + 1, [s1.heap.objs.size + 1, s1.heap.objs.size], _, _, H1, rfl, I2, turn_enum a (s1.heap.objs.size + 1) s1.heap.objs.size, ⟨⟨.none, he⟩, hit, Nat.succ_ne_self _⟩, fun b hb => ?_, q⟩
      have hle : s1.heap.objs.size ≤ b := by
        rcases (show b = s1.heap.objs.size + 1 ∨ b = s1.heap.objs.size by simpa using hb) with z | z <;> (rw [z]; omega)
      exact I1.fpOk hle (I1.hok.fresh hle)
    · obtain ⟨its, rv, p', hz⟩ := I1.tuple hq
      refine my_enum_call (begins_tuple a its.toArray) p' fun h' he hit hk => wpAny_pyIter_enum he ?_
      have I2 : Inv X pins σ H1 { s1 with heap := h' } := I1.kept (t' := s1.toks) hk
      refine ⟨s1.heap.objs.size + 1, [s1.heap.objs.size + 1, s1.heap.objs.size], _, _, H1, rfl, I2, my_turn_enum a (s1.heap.objs.size + 1) s1.heap.objs.size, ⟨⟨.none, he⟩, ⟨_, hit, rfl, rfl⟩, Nat.succ_ne_self _⟩, fun b hb => ?_, q⟩
      have hle : s1.heap.objs.size ≤ b := by
        rcases (show b = s1.heap.objs.size + 1 ∨ b = s1.heap.objs.size by simpa using hb) with z | z <;> (rw [z]; omega)
      exact I1.fpOk hle (I1.hok.fresh hle)
def rSlS (K : PySem.W.Frag) : V → Option Int → Option Int → Hp → VK → Prop := fun x lo hi H Q => rSlL K x lo hi H Q ∨ rSlA K x lo hi H Q
theorem sl_seq {X : Cx} : SlR X (rSlS X.K) := SlR.or sl_list sl_tupA
section
variable {K : PySem.W.Frag} {B : Base} {G : Hp} {δ : En} {te tb : TE} {tl th : TO} {P : Pd}
theorem wd_enumS {ta : TA} {ds : List PyData} (h : EA K B ta δ (fun l => ∃ d, RowV ds d ∧ l = [d])) : WD K B (iEnumS K ta) δ (· = enumD ds) := fun G H σ E R q => h G H σ E _ fun vs es G1 H1 pd m r => by
  obtain ⟨d, hd, rfl⟩ := pd
  cases r with
  | cons r rs =>
    cases rs
    rcases hd with rfl | rfl
    · obtain ⟨a, xs, rfl, ha, rs⟩ := r.l
      exact ⟨a, xs, rfl, .inl ⟨sq_of (m.gh _ _ ha), q _ _ G1 H1 rfl m (jd_enum ha rs)⟩⟩
    · obtain ⟨a, xs, rfl, ha, rs⟩ := r.t
      exact ⟨a, xs, rfl, .inr ⟨ex_t m.gh ha, q _ _ G1 H1 rfl m (jd_enumT ha rs)⟩⟩
theorem sIx_nat {n : Nat} {k : Nat} (h : k ≤ n) : HT.sIx n n (some (k : Int)) = k := by
  unfold HT.sIx
  simp only [Int.toNat_natCast]
  have h0 : ¬ ((k : Int) < 0) := by omega
  simp [h0]
  omega
theorem ed_slS {ds : List PyData} {k : Nat} (h : ED K B te δ (RowV ds)) (hk : ED K B tb δ (· = .int (k : Int))) (hz : k ≤ ds.length) : ED K B (tSl (rSlS K) te tNoPart (tPart tb)) δ (RowV (ds.take k)) := fun G H σ E Q q =>
  h G H σ E _ fun v d G1 H1 pd m1 r1 => hk G1 H1 σ (E.at m1) _ fun w x G2 H2 px m2 r2 => by
    subst px
    rw [r2.i]
    have mm := m1.trans m2 E.iv
    have I2 := (E.at m1).iv.at m2
    have e0 : HT.sIx ds.length 0 none = 0 := rfl
    refine ⟨(k : Int), rfl, ?_⟩
    rcases pd with rfl | rfl
    · obtain ⟨a, xs, rfl, ha, rx⟩ := (r1.mono m2.gg).l
      refine .inl ⟨a, xs, rfl, sq_of (I2.gh _ _ ha), fun p hp => ?_⟩
      have hg := g_none I2 hp
      have mn := Gm.new (o := .lst (cutV xs none (some (k : Int)))) I2 hp
      refine q (.ref p) (.list (ds.take k)) _ _ (.inl rfl) (mm.trans mn E.iv) (.lst upd_same ?_)
      have e : cutV xs none (some (k : Int)) = xs.take k := by
        unfold cutV
        rw [sIx_nat (by rw [rx.length]; exact hz)]
        show (xs.drop 0).take (k - 0) = _
        rw [List.drop_zero, Nat.sub_zero]
      have z := (rx.mono mn.gg).take k
      rw [← e] at z
      exact z
    · obtain ⟨a, xs, rfl, ha, rx⟩ := (r1.mono m2.gg).tH
      have e : cutV xs none (some (k : Int)) = xs.take k := by
        unfold cutV
        rw [sIx_nat (by rw [rx.length]; exact hz)]
        show (xs.drop 0).take (k - 0) = _
        rw [List.drop_zero, Nat.sub_zero]
      refine .inr ⟨a, xs, rfl, st_of (I2.gh _ _ ha), fun hw => ?_, fun _ p hp => ?_⟩
      · have hk2 : k = xs.length := by
          have := hw.2
          rw [sIx_nat (by rw [rx.length]; exact hz)] at this
          exact this
        refine q (.ref a) (.tuple (ds.take k)) G2 H2 (.inr rfl) mm (.tup ha ?_)
        have : ds.take k = ds := List.take_of_length_le (by rw [hk2, rx.length]; exact Nat.le_refl _)
        rw [this]
        exact rx
      · have mn := Gm.new (o := .tup (cutV xs none (some (k : Int)))) I2 hp
        refine q (.ref p) (.tuple (ds.take k)) _ _ (.inr rfl) (mm.trans mn E.iv) (.tup upd_same ?_)
        have z := (rx.mono mn.gg).take k
        rw [← e] at z
        exact z
theorem ed_inS {neg : Bool} {i : Int} {ns : List Int} (h : ED K B te δ (· = .int i)) (k : ED K B tb δ (RowV (ns.map PyData.int))) : ED K B (tOp (rIn K neg) te tb) δ (· = .bool (if neg then !decide (i ∈ ns) else decide (i ∈ ns))) := ed_op h k fun a b pa pb => by
  subst pa
  rcases pb with rfl | rfl
  · exact rd_inL
  · exact rd_inT
theorem cl_sortedQ {ns : List Int} {d : PyData} (hd : RowV (ns.map PyData.int) d) (hz : ns.length < 64) : CL K (rSortedQ K) [d] (fun es => ∃ ms : List Int, es = ms.map PyData.int ∧ ms.Perm ns ∧ ms.Pairwise (· ≤ ·)) := fun B G H vs I r Q q => by
  cases r with
  | cons r rs =>
    cases rs
    rcases hd with rfl | rfl
    · obtain ⟨a, xs, rfl, ha, rs⟩ := r.l
      rw [rs.ints] at ha
      exact ⟨a, ns, rfl, .inl (sq_of (I.gh _ _ ha)), hz, fun ms l h1 h2 hl => q l _ _ G _ ⟨ms, rfl, h1, h2⟩ (Gm.newH I hl) hl (g_none I hl) upd_same (.ofInts ms)⟩
    · obtain ⟨a, xs, rfl, ha, rs⟩ := r.t
      rw [rs.ints] at ha
      exact ⟨a, ns, rfl, .inr (ex_t I.gh ha), hz, fun ms l h1 h2 hl => q l _ _ G _ ⟨ms, rfl, h1, h2⟩ (Gm.newH I hl) hl (g_none I hl) upd_same (.ofInts ms)⟩
theorem el_listS {ds : List PyData} (h : ED K B te δ (RowV ds)) : EL K B (tCB (rListQ K) (tCons te tNil)) δ (· = ds) := fun G H σ E Q q => h G H σ E _ fun v d G1 H1 pd m r => by
  have I1 := E.iv.at m
  rcases pd with rfl | rfl
  · exact cl_listL B G1 H1 [v] I1 (.one r) Q fun p us es G2 H2 e m2 hp gp hl rr => q p us es G2 H2 e (m.trans m2 E.iv) (back E.iv m hp) gp hl rr
  · exact cl_listT B G1 H1 [v] I1 (.one r) Q fun p us es G2 H2 e m2 hp gp hl rr => q p us es G2 H2 e (m.trans m2 E.iv) (back E.iv m hp) gp hl rr
theorem ed_tupS {ds : List PyData} (h : ED K B te δ (RowV ds)) : ED K B (tCB (rTupQ K) (tCons te tNil)) δ (· = .tuple ds) := fun G H σ E Q q => h G H σ E _ fun v d G1 H1 pd m r => by
  have I1 := E.iv.at m
  rcases pd with rfl | rfl
  · exact cd_tupL B G1 H1 [v] I1 (.one r) Q fun z d G2 H2 p m2 r2 => q z d G2 H2 p (m.trans m2 E.iv) r2
  · exact cd_tupT B G1 H1 [v] I1 (.one r) Q fun z d G2 H2 p m2 r2 => q z d G2 H2 p (m.trans m2 E.iv) r2
end
end DL
namespace DL
variable [Tb]
open PySem PySem.Spec PyProof.Rows L2 Evl
structure Cmp (k : Nat) (d : PyData) : Prop where
  no : noD d = true
  lay : d.canLay0 = true
  dep : d.depth ≤ k
theorem cmp_int {k : Nat} {i : Int} : Cmp k (.int i) := ⟨rfl, by simp [PyData.canLay0], by simp [PyData.depth]⟩
theorem cmp_bl {k : Nat} {i : Bool} : Cmp k (.bool i) := ⟨rfl, by simp [PyData.canLay0], by simp [PyData.depth]⟩
theorem cmp_non {k : Nat} : Cmp k .none := ⟨rfl, by simp [PyData.canLay0], by simp [PyData.depth]⟩
theorem cmp_str {k : Nat} {i : Str} (h : PyData.strOk i = true) : Cmp k (.str i) := ⟨rfl, by rw [PyData.canLay0]; exact h, by simp [PyData.depth]⟩
theorem cmp_all {k : Nat} : ∀ {xs : List PyData}, (∀ x ∈ xs, Cmp k x) → noDA xs = true ∧ PyData.canLayAll0 xs = true ∧ PyData.depthAll xs ≤ k
  | [], _ => ⟨rfl, by simp [PyData.canLayAll0], by simp [PyData.depthAll]⟩
  | x :: xs, h => by
    obtain ⟨h1, h2, h3⟩ := h x List.mem_cons_self
    obtain ⟨k1, k2, k3⟩ := cmp_all fun y hy => h y (List.mem_cons_of_mem _ hy)
    refine ⟨?_, ?_, ?_⟩
    · show (noD x && noDA xs) = true
      rw [h1, k1]; rfl
    · rw [PyData.canLayAll0, h2, k2]; rfl
    · rw [PyData.depthAll]; omega
theorem cmp_list {k : Nat} {xs : List PyData} (h : ∀ x ∈ xs, Cmp k x) : Cmp (k + 1) (.list xs) := by
  obtain ⟨h1, h2, h3⟩ := cmp_all h
  exact ⟨h1, by rw [PyData.canLay0]; exact h2, by rw [PyData.depth]; omega⟩
theorem cmp_tup {k : Nat} {xs : List PyData} (h : ∀ x ∈ xs, Cmp k x) : Cmp (k + 1) (.tuple xs) := by
  obtain ⟨h1, h2, h3⟩ := cmp_all h
  exact ⟨h1, by rw [PyData.canLay0]; exact h2, by rw [PyData.depth]; omega⟩
theorem Cmp.shaped {k : Nat} {d : PyData} (h : Cmp k d) (hk : k ≤ 64) : SeqAt.shaped d = true := by
  unfold SeqAt.shaped
  rw [h.lay, decide_eq_true (Nat.le_trans h.dep hk)]
  rfl
section
variable {K : PySem.W.Frag}
theorem rd_eqC {k : Nat} {d : PyData} (h : Cmp k d) (hk : k ≤ 64) : RD K (rEqD K) d d (· = .bool true) := rd_eqDs h.no (h.shaped hk)
theorem rd_neC {k : Nat} {d : PyData} (h : Cmp k d) (hk : k ≤ 64) : RD K (rNeD K) d d (· = .bool false) := rd_neDs h.no (h.shaped hk)
end
theorem mem_ints {l : List Int} {x : PyData} (h : x ∈ l.map PyData.int) : ∃ i ∈ l, x = .int i := by
  obtain ⟨i, h1, h2⟩ := List.mem_map.mp h
  exact ⟨i, h1, h2.symm⟩
theorem cmp_tints {l : List Int} : Cmp 1 (.tuple (l.map PyData.int)) := cmp_tup fun x hx => by
  obtain ⟨i, _, rfl⟩ := mem_ints hx
  exact cmp_int
end DL
namespace DL
variable [Tb]
open PySem PySem.Spec PyProof.Rows L2 Evl
theorem RpA.rev {K : PySem.W.Frag} {H : Hp} : ∀ {vs : List V} {ds : List PyData}, RpA K H vs ds → RpA K H vs.reverse ds.reverse
  | _, _, .nil => .nil
  | _, _, .cons h t => by rw [List.reverse_cons, List.reverse_cons]; exact (RpA.rev t).append (.one h)
section
variable {K : PySem.W.Frag} {B : Base} {δ : En} {te : TE}
theorem el_rev {ds : List PyData} (h : ED K B te δ (· = .list ds)) : EL K B (tRevL K te) δ (· = ds.reverse) := fun G H σ E Q q => h G H σ E _ fun v d G1 H1 pd m r => by
  subst pd
  obtain ⟨a, xs, rfl, ha, rx⟩ := r.l
  have I := E.iv.at m
  exact ⟨a, xs, rfl, sq_of (I.gh _ _ ha), fun p hp => q p _ _ G1 _ rfl (m.trans (Gm.newH I hp) E.iv) (back E.iv m hp) (g_none I hp) upd_same rx.rev⟩
theorem el_lrg {n : Nat} (h : ED K B te δ (· = .int (n : Int))) (hn : n ≤ 10000) : EL K B (tLstRg (tRg1 te)) δ (· = ((List.range n).map fun i : Nat => (i : Int)).map PyData.int) := fun G H σ E Q q => h G H σ E _ fun v d G1 H1 pd m r => by
  subst pd
  rw [r.i]
  have I := E.iv.at m
  refine ⟨_, rfl, RgOk.of_le (Int.le_refl 0) (by omega) (by decide) (by omega), fun p hp => ?_⟩
  have e : rgV 0 (n : Int) = ((List.range n).map fun i : Nat => (i : Int)).map V.int := by
    unfold rgV
    rw [List.map_map, Int.sub_zero, Int.toNat_natCast]
    refine List.map_congr_left fun i _ => ?_
    show V.int (0 + (i : Int)) = V.int (i : Int)
    rw [Int.zero_add]
  rw [e]
  exact q p _ _ G1 _ rfl (m.trans (Gm.newH I hp) E.iv) (back E.iv m hp) (g_none I hp) upd_same (RpA.ofInts _)
end
end DL
namespace SU
open PySem PySem.Spec PyProof.Rows L2
structure Rnd (m : Nat) : Prop where
  al : ∀ j, j ≤ m → ∃ b, b ≤ m ∧ lcgN m b = j
  ro : lcgN m (m + 1) = 0
def chk (m : Nat) : Bool := ((List.range (m + 1)).all fun j => (List.range (m + 1)).any fun b => lcgN m b == j) && lcgN m (m + 1) == 0
theorem rnd_of {m : Nat} (h : chk m = true) : Rnd m := by
  unfold chk at h
  rw [Bool.and_eq_true] at h
  refine ⟨fun j hj => ?_, beq_iff_eq.mp h.2⟩
  obtain ⟨b, hb, e⟩ := List.any_eq_true.mp (List.all_eq_true.mp h.1 j (List.mem_range.mpr (by omega)))
  exact ⟨b, by have := List.mem_range.mp hb; omega, beq_iff_eq.mp e⟩
theorem rnd7 : Rnd 7 := rnd_of (by decide +kernel)
theorem rnd15 : Rnd 15 := rnd_of (by decide +kernel)
theorem rnd31 : Rnd 31 := rnd_of (by decide +kernel)
theorem rnd63 : Rnd 63 := rnd_of (by decide +kernel)
theorem above (n : Nat) (h : n < 64) : Rnd (SetTable.sizeAbove n - 1) ∧ n < SetTable.sizeAbove n ∧ SetTable.sizeAbove n ≤ 64 := by
  have key : ∀ n, n < 64 → (SetTable.sizeAbove n = 8 ∨ SetTable.sizeAbove n = 16 ∨ SetTable.sizeAbove n = 32 ∨ SetTable.sizeAbove n = 64) ∧ n < SetTable.sizeAbove n := by decide +kernel
  obtain ⟨k, hl⟩ := key n h
  rcases k with e | e | e | e <;> rw [e] at hl ⊢
  · exact ⟨rnd7, hl, by decide⟩
  · exact ⟨rnd15, hl, by decide⟩
  · exact ⟨rnd31, hl, by decide⟩
  · exact ⟨rnd63, hl, by decide⟩
theorem per {m : Nat} (R : Rnd m) : ∀ k, lcgN m (m + 1 + k) = lcgN m k
  | 0 => R.ro
  | k + 1 => by
    have ih := per R k
    exact congrArg (fun z => (z * 5 + 1) % (m + 1)) ih
theorem meets {m i j : Nat} (R : Rnd m) (hi : i ≤ m) (hj : j ≤ m) : ∃ k, k ≤ m ∧ lcgI m i k = j := by
  obtain ⟨x, hx, rfl⟩ := R.al i hi
  obtain ⟨y, hy, rfl⟩ := R.al j hj
  by_cases c : x ≤ y
  · exact ⟨y - x, by omega, by rw [lcgN_add]; congr 1; omega⟩
  · refine ⟨y + (m + 1) - x, by omega, ?_⟩
    rw [lcgN_add, ← per R y]
    congr 1
    omega
theorem runs {m j : Nat} (R : Rnd m) (h : Int) (hj : j ≤ m) : ∃ n, n ≤ m + 12 ∧ runI m (SetTable.bits h) n = j := by
  obtain ⟨k, q, e⟩ := meets R (runI_le m (SetTable.bits h) 12) hj
  exact ⟨12 + k, by omega, (runI_tail (bits_lt h) k).trans e⟩
theorem wayLe {m : Nat} {h : Int} {k : Nat} : way m h k ≤ m := by
  have b := runEnd_bd (m := m) (i := SetTable.bits h % (m + 1)) (Nat.le_of_lt_succ (Nat.mod_lt _ (Nat.succ_pos m)))
  have q := nth_in (m := m) k (runAt m (SetTable.bits h % (m + 1)) (SetTable.bits h)) (by
    show SetTable.bits h % (m + 1) + (_ - _) ≤ m
    omega)
  exact Nat.le_trans (Nat.le_add_right _ _) q
theorem findFree {m : Nat} (R : Rnd m) (ow : Array (Option Nat)) (h : Int) {j : Nat} (hj : j ≤ m) (hf : oAt ow j = none) :
    ∃ K, SetTable.layClean.free m ow (SetTable.turns m) (SetTable.bits h % (m + 1)) (SetTable.bits h) = some (way m h K) ∧ oAt ow (way m h K) = none ∧ ∀ k, k < K → oAt ow (way m h k) ≠ none := by
  obtain ⟨n, hn, e⟩ := runs R h hj
  have hw : way m h (off m (SetTable.bits h % (m + 1)) (SetTable.bits h) n) = j := by
    have z := congrArg SetTable.Probe.j (nth_off m n (SetTable.bits h % (m + 1)) (SetTable.bits h))
    rw [itL_run] at z
    exact z.trans e
  obtain ⟨K, k1, k2, k3⟩ := st_least (p := fun k => oAt ow (way m h k) = none) _ (by rw [hw]; exact hf)
  refine ⟨K, free_spec m ow (SetTable.turns m) n _ _ K (by unfold SetTable.turns; omega) k1 (fun k hk => ?_) ?_, k2, k3⟩
  · show (oAt ow (way m h k)).isNone = false
    cases z : oAt ow (way m h k) with
    | none => exact absurd z (k3 k hk)
    | some x => rfl
  · exact (congrArg Option.isNone k2).trans rfl
structure Oc (m n : Nat) (ow : Array (Option Nat)) : Prop where
  sz : ow.size = m + 1
  all : ∀ k, k < n → ∃ j, j ≤ m ∧ oAt ow j = some k
  ps : ∃ ps : List Nat, ps.length = n ∧ ∀ j, j ≤ m → oAt ow j ≠ none → j ∈ ps
theorem Oc.step {m n : Nat} (R : Rnd m) {ow : Array (Option Nat)} (W : Oc m n ow) (hl : n ≤ m) (h : Int) :
    ∃ j, SetTable.layClean.free m ow (SetTable.turns m) (SetTable.bits h % (m + 1)) (SetTable.bits h) = some j ∧ Oc m (n + 1) (ow.setIfInBounds j (some n)) := by
  obtain ⟨ps, hps, hin⟩ := W.ps
  obtain ⟨x, x1, x2⟩ := st_missing ps (m + 1) (by omega)
  have hx : oAt ow x = none := by
    cases z : oAt ow x with
    | none => rfl
    | some k => exact (x2 (hin x (by omega) (by rw [z]; simp))).elim
  obtain ⟨K, e1, e2, _⟩ := findFree R ow h (by omega) hx
  have jm : way m h K ≤ m := wayLe
  have self := oAt_set_self (owner := ow) (j := way m h K) (some n) (by rw [W.sz]; omega)
  refine ⟨_, e1, ?_⟩
  generalize way m h K = J at self jm e2 ⊢
  refine ⟨by rw [Array.size_setIfInBounds]; exact W.sz, fun k hk => ?_, J :: ps, by simp [hps], fun j hj e => ?_⟩
  · by_cases c : k < n
    · obtain ⟨j, hj, e⟩ := W.all k c
      exact ⟨j, hj, by rw [oAt_set_ne _ (fun z => by rw [z, e2] at e; cases e)]; exact e⟩
    · exact ⟨J, jm, by rw [show k = n by omega]; exact self⟩
  · by_cases c : j = J
    · exact c ▸ List.mem_cons_self
    · rw [oAt_set_ne _ c] at e
      exact List.mem_cons_of_mem _ (hin j hj e)
theorem fold {m : Nat} (R : Rnd m) : ∀ (hs : List Int) (n : Nat) (ow : Array (Option Nat)), Oc m n ow → n + hs.length ≤ m → ∃ o2, hs.foldl (stepF m) (some (ow, n)) = some (o2, n + hs.length) ∧ Oc m (n + hs.length) o2
  | [], n, ow, W, _ => ⟨ow, rfl, W⟩
  | h :: hs, n, ow, W, hl => by
    rw [List.length_cons] at hl
    obtain ⟨j, e, W2⟩ := W.step R (by omega) h
    obtain ⟨o2, f, W3⟩ := fold R hs (n + 1) _ W2 (by omega)
    have q : n + 1 + hs.length = n + (h :: hs).length := by rw [List.length_cons]; omega
    rw [q] at f W3
    exact ⟨o2, by rw [List.foldl_cons, stepF_some e]; exact f, W3⟩
theorem lay {m : Nat} (R : Rnd m) {hs : Array Int} (hn : hs.size ≤ m) : ∃ ow, SetTable.layClean m hs = some ow ∧ Oc m hs.size ow := by
  obtain ⟨ow, f, W⟩ := fold R hs.toList 0 (Array.replicate (m + 1) none) ⟨by simp, fun k hk => absurd hk (by omega), [], rfl, fun j hj e => (e (oAt_init hj)).elim⟩ (by simpa using hn)
  have z : 0 + hs.toList.length = hs.size := by simp
  rw [z] at f W
  exact ⟨ow, by rw [layClean_eq, f]; rfl, W⟩
theorem laid_eq (m f v : Nat) (l p : Bool) (hs : Array Int) : SetTable.laid m f v l p hs = (SetTable.layClean m hs).bind fun ow =>
    some ({ mask := m, place := ((liveOf m ow).map Prod.fst).toArray, dummies := #[], finger := f, led := l, moves := v, plain := p }, ((liveOf m ow).map Prod.snd).toArray) := rfl
theorem laid_ok {m : Nat} (R : Rnd m) (f v : Nat) (l p : Bool) {hs : Array Int} (hn : hs.size ≤ m) :
    ∃ t od, SetTable.laid m f v l p hs = some (t, od) ∧ od.toList.Perm (List.range hs.size) ∧ Ris t.place.toList ∧ t.place.size = hs.size ∧ t.mask = m ∧ t.led = l ∧ t.dummies = #[] := by
  obtain ⟨ow, e, W⟩ := lay R hn
  have rs := ris_live (fun j => ow.getD j none) (List.range (m + 1)) (by
    unfold Ris
    first | exact List.pairwise_lt_range | exact List.pairwise_lt_range _)
  have r1 : Ris ((liveOf m ow).map Prod.fst) := rs.1
  have hlen : (liveOf m ow).length = hs.size := by
    obtain ⟨ps, p1, p2⟩ := W.ps
    have up := nat_nodup_len _ ps (List.Pairwise.imp (fun {x y} h => Nat.ne_of_lt h) r1) fun x hx => by
      obtain ⟨⟨y, k⟩, hq, rfl⟩ := List.mem_map.mp hx
      obtain ⟨b1, b2⟩ := (mem_live W.sz).1 hq
      exact p2 y b1 (by rw [b2]; simp)
    have dn := nat_nodup_len (List.range hs.size) ((liveOf m ow).map Prod.snd) List.nodup_range fun k hk => by
      obtain ⟨j, b1, b2⟩ := W.all k (List.mem_range.mp hk)
      exact List.mem_map.mpr ⟨_, (mem_live W.sz).2 ⟨b1, b2⟩, rfl⟩
    rw [List.length_map, p1] at up
    rw [List.length_map, List.length_range] at dn
    omega
  refine ⟨_, _, by rw [laid_eq, e]; rfl, perm_range hs.size _ ?_ fun k hk => ?_, r1, ?_, rfl, rfl, rfl⟩
  · show ((liveOf m ow).map Prod.snd).length = _
    rw [List.length_map, hlen]
  · obtain ⟨j, b1, b2⟩ := W.all k hk
    exact List.mem_map.mpr ⟨_, (mem_live W.sz).2 ⟨b1, b2⟩, rfl⟩
  · show ((liveOf m ow).map Prod.fst).toArray.size = _
    rw [List.size_toArray, List.length_map, hlen]
theorem picked {α : Type} (es : Array α) {od : Array Nat} (hp : od.toList.Perm (List.range es.size)) : (od.filterMap (es[·]?)).toList.Perm es.toList := by
  have key : ∀ n, n ≤ es.size → (List.range n).filterMap (fun i => es[i]?) = es.toList.take n := by
    intro n
    induction n with
    | zero => intro _; rfl
    | succ n ih =>
      intro hn
      rw [List.range_succ, List.filterMap_append, ih (by omega), List.take_succ]
      congr 1
      rw [Array.getElem?_toList, Array.getElem?_eq_getElem (by omega)]
      simp [List.filterMap_cons, Array.getElem?_eq_getElem (show n < es.size by omega)]
  have z := key es.size (Nat.le_refl _)
  rw [List.take_of_length_le (by simp)] at z
  rw [← z, Array.toList_filterMap]
  exact hp.filterMap _
end SU
namespace SU
open PySem PySem.Spec PyProof.Rows L2
structure Rr (w : World) (h : Heap) (a : Addr) (S : Int → Bool) (n : Nat) : Prop where
  r : SetR w h a S n
  m : ∀ o es ep t, h.get? a = some o → o.data = .set es ep t → n = 0 → Rnd t.mask
section
variable {P : Program} {w : World} {A : Around} {E : Value → Shared → Prop} {s : Shared} {a b : Addr} {S S1 S2 : Int → Bool} {n n1 n2 : Nat}
theorem putS {h : Heap} {o : Obj} {es es' : Array (Int × Value)} {ep : Nat} {t t' : SetTable} (ho : h.get? a = some o) (hex : o.ExactSet) (hd : o.data = .set es ep t)
    (g : ∀ e ∈ es'.toList, GoodE e) (nd : (es'.toList.map keyOf).Nodup) (hm : ∀ k, S k = true ↔ k ∈ es'.toList.map keyOf) (hb : es'.size < scanBound) (hf : t'.fits es'.size = true) (hr : Ris t'.place.toList)
    (hl : w.params.followText "set-order" = true ∨ t'.led = true) : SetR w (h.update a (Obj.putSet es' t')) a S es'.size :=
  ⟨_, es', _, t', store_at (es' := es') (t' := t') ho hd, hex, rfl, g, nd, hm, hb, hf, rfl, hr, hl⟩
theorem put {h : Heap} {o : Obj} {es es' : Array (Int × Value)} {ep : Nat} {t t' : SetTable} (ho : h.get? a = some o) (hex : o.ExactSet) (hd : o.data = .set es ep t)
    (g : ∀ e ∈ es'.toList, GoodE e) (nd : (es'.toList.map keyOf).Nodup) (hm : ∀ k, S k = true ↔ k ∈ es'.toList.map keyOf) (hb : es'.size < scanBound) (hf : t'.fits es'.size = true) (hr : Ris t'.place.toList)
    (hl : w.params.followText "set-order" = true ∨ t'.led = true) (hM : es'.size = 0 → Rnd t'.mask) : Rr w (h.update a (Obj.putSet es' t')) a S es'.size := by
  refine ⟨putS ho hex hd g nd hm hb hf hr hl, fun o2 e2 p2 t2 q1 q2 q3 => ?_⟩
  rw [store_at (es' := es') (t' := t') ho hd] at q1
  cases q1
  cases q2
  exact hM q3
theorem fit {t : SetTable} {n : Nat} (h : t.fits n = true) : t.place.size = n ∧ t.place.size + t.dummies.size ≤ t.mask := by
  unfold SetTable.fits SetTable.fill at h
  rw [Bool.and_eq_true, beq_iff_eq, decide_eq_true_eq] at h
  exact h
theorem fit_of {t : SetTable} {n : Nat} (h : t.place.size = n) (k : t.place.size + t.dummies.size ≤ t.mask) : t.fits n = true := by
  unfold SetTable.fits SetTable.fill
  rw [Bool.and_eq_true, beq_iff_eq, decide_eq_true_eq]
  exact ⟨h, k⟩
theorem relay {wanted : Nat} {Q : Unit → Shared → Prop} (R : SetR w s.heap a S n) (hw : wanted < 64) (hn : n ≤ wanted) (hQ : ∀ h', Heap.SameBut a s.heap h' → Rr w h' a S n → (∀ o es ep t, h'.get? a = some o → o.data = .set es ep t → wanted ≤ t.mask) → Q () { s with heap := h' }) :
    wpAny (model P w) A (setRelay a wanted) Q E s := by
  obtain ⟨o, es, ep, t, ho, hex, hd, g, nd, hm, hb, hf, rfl, hr, hl⟩ := R
  obtain ⟨R, up, le⟩ := above wanted hw
  obtain ⟨t2, od, e, pm, q1, q2, q3, q4, q5⟩ := laid_ok R t.finger (t.movedTo (SetTable.sizeAbove wanted - 1)) t.led t.plain (hs := es.map (·.1)) (by rw [Array.size_map]; omega)
  rw [Array.size_map] at pm q2
  have e2 : t.relaid (es.map (·.1)) wanted = some (t2, od) := e
  have pe := picked es pm
  have sz : (od.filterMap (es[·]?)).size = es.size := by rw [← Array.length_toList, pe.length_eq, Array.length_toList]
  rw [setRelay_eq]
  refine wpAny_bind (wpAny_setState_of ho hd hf ?_)
  dsimp only
  refine wp_if_neg (by rw [sizeLine_eq]; omega) ?_
  try refine wpAny_bind (wpAny_pure ?_)
  rw [e2]
  dsimp only
  refine wpAny_bind ?_
  refine wp_if_neg (by rw [sz]; simp) ?_
  try refine wpAny_bind (wpAny_pure ?_)
  refine wpAny_pure ?_
  dsimp only
  refine wpAny_storeSet_of ho hd (hQ _ (Heap.SameBut.update _ _ _) ?_ fun o2 e2 p2 tt k1 k2 => ?_) (fits_of_scanBound (by rw [sz]; exact hb))
  rotate_left
  · rw [store_at ho hd] at k1
    cases k1
    cases k2
    omega
  have z := put (w := w) (S := S) (es' := od.filterMap (es[·]?)) (t' := t2) ho hex hd (fun x hx => g x (pe.mem_iff.mp hx)) ((pe.map keyOf).nodup_iff.mpr nd) (fun k => (hm k).trans (pe.map keyOf).mem_iff.symm) (by rw [sz]; exact hb)
    (by rw [sz]; exact fit_of q2 (by rw [q2, q5, q3]; simp; omega)) q1 (hl.imp id fun z => by rw [q4]; exact z) (fun _ => by rw [q3]; exact R)
  rw [sz] at z
  exact z
theorem roomFor {more : Nat} {Q : Unit → Shared → Prop} (R : Rr w s.heap a S n) (hn : n + more ≤ 31) (hQ : ∀ h', Heap.SameBut a s.heap h' → Rr w h' a S n → (∀ o es ep t, h'.get? a = some o → o.data = .set es ep t → more ≤ t.mask) → Q () { s with heap := h' }) :
    wpAny (model P w) A (setRoomFor a more) Q E s := by
  obtain ⟨o, es, ep, t, ho, hex, hd, g, nd, hm, hb, hf, hz, hr, hl⟩ := id R.r
  unfold setRoomFor
  refine wpAny_bind (wpAny_setState_of ho hd hf ?_)
  dsimp only
  cases hc : t.roomFor more with
  | none =>
    refine wpAny_pure (hQ s.heap (Heap.SameBut.refl _ _) R fun o2 e2 p2 t2 k1 k2 => ?_)
    rw [ho] at k1
    cases k1
    rw [hd] at k2
    cases k2
    unfold SetTable.roomFor at hc
    split at hc
    · cases hc
    · unfold SetTable.fill at *
      omega
  | some wd =>
    have hw : wd = (t.place.size + more) * 2 := by
      unfold SetTable.roomFor at hc
      split at hc
      · exact (Option.some.inj hc).symm
      · cases hc
    have hp := (fit hf).1
    exact relay R.r (by omega) (by omega) fun h' k1 k2 k3 => hQ h' k1 k2 fun o e p t q1 q2 => by have := k3 o e p t q1 q2; omega
end
section
variable {P : Program} {w : World} {A : Around} {E : Value → Shared → Prop} {s : Shared} {a : Addr} {es : Array (Int × Value)} {ep : Nat} {t : SetTable} {o : Obj}
theorem walk {Q : Array (Int × Value) → Shared → Prop} (ho : s.heap.get? a = some o) (hd : o.data = .set es ep t) (hf : t.fits es.size = true) (hl : w.params.followText "set-order" = true ∨ t.led = true)
    (hQ : ∀ out d, out.toList.Perm es.toList → Q out { s with drawn := d }) : wpAny (model P w) A (setWalk a) Q E s := by
  unfold setWalk
  refine wpAny_bind (wpAny_setState_of ho hd hf ?_)
  dsimp only
  refine wpAny_bind (wpAny_byText ?_)
  by_cases hb : w.params.followText "set-order" = true
  · refine wp_if_pos hb ?_
    exact wpAny_bind (wpAny_askSetting (wpAny_pure (hQ _ s.drawn (pick_perm _ _))))
  · refine wp_if_neg hb ?_
    have hled := hl.resolve_left hb
    cases hdr : (!t.plain && decide (es.size > 1)) with
    | true =>
      refine wp_if_pos (by exact hdr) ?_
      exact wpAny_bind (drawOrder_at _ _ _ _ (by simp) fun ys d hp => wpAny_pure (hQ _ d (by simpa using hp)))
    | false =>
      refine wp_if_neg (by show ¬ ((!t.plain && decide (es.size > 1)) = true); rw [hdr]; exact Bool.false_ne_true) ?_
      refine wpAny_bind (wpAny_of_eq (a := ()) ?_ (wpAny_pure (hQ _ s.drawn (List.Perm.refl _))))
      show (if (!t.led && decide (es.size > 1)) = true then unsupported "set:maker-not-led" else pure ()) = pure ()
      rw [hled] <;> rfl
end
end SU
namespace SU
open PySem PySem.Spec PyProof.Rows L2
section
variable {P : Program} {w : World} {A : Around} {E : Value → Shared → Prop} {s : Shared}
theorem quiet {as : List Addr} {Q : Bool → Shared → Prop} (h : ∀ a ∈ as, ∃ o es ep t, s.heap.get? a = some o ∧ o.data = .set es ep t ∧ t.fits es.size = true ∧ ∀ e ∈ es.toList, GoodE e) (q : Q true s) : wpAny (model P w) A (setsQuiet as) Q E s := by
  unfold setsQuiet
  refine wpAny_bind (wpAny_forIn_list _ (fun rest b s' => b.1 = none ∧ s' = s ∧ ∀ a ∈ rest, a ∈ as) _ ?_ ?_ as _ ⟨rfl, rfl, fun _ h => h⟩)
  · rintro a rest b s' ⟨hb, rfl, hr⟩
    obtain ⟨o, es, ep, t, ho, hd, hf, g⟩ := h a (hr a List.mem_cons_self)
    refine wpAny_bind (wpAny_setEntries_of ho hd hf ?_)
    refine wpAny_bind (PySem.MeetsSeq2.wpAny_forIn_array _ (fun rest b s'' => b.1 = none ∧ s'' = s' ∧ ∀ e ∈ rest, e ∈ es.toList) _ ?_ ?_ es _ ⟨rfl, rfl, fun _ h => h⟩)
    · rintro ⟨hh, x⟩ r2 b2 s2 ⟨hb2, rfl, hr2⟩
      obtain ⟨k, tk, e1, _⟩ := g _ (hr2 _ List.mem_cons_self)
      dsimp only at e1 ⊢
      subst e1
      exact wpAny_pure ⟨rfl, rfl, fun e he => hr2 e (List.mem_cons_of_mem _ he)⟩
    · rintro ⟨b2, u2⟩ s2 ⟨hb2, rfl, _⟩
      cases show b2 = none from hb2
      exact wpAny_pure ⟨rfl, rfl, fun a ha => hr a (List.mem_cons_of_mem _ ha)⟩
  · rintro ⟨b, u⟩ s' ⟨hb, rfl, _⟩
    cases show b = none from hb
    exact wpAny_pure q
variable {a b : Addr} {S S1 S2 : Int → Bool} {n n1 n2 : Nat}
theorem unseen {Q : Array (Int × Value) → Shared → Prop} {o : Obj} {es : Array (Int × Value)} {ep : Nat} {t : SetTable} (hne : a ≠ b) (R1 : SetR w s.heap a S1 n1) (ho : s.heap.get? b = some o) (hd : o.data = .set es ep t) (hf : t.fits es.size = true)
    (g : ∀ e ∈ es.toList, GoodE e) (hl : w.params.followText "set-order" = true ∨ t.led = true) (hQ : ∀ out h' d, out.toList.Perm es.toList → Heap.SameBut a s.heap h' → SetR w h' a S1 n1 → Q out { s with heap := h', drawn := d }) :
    wpAny (model P w) A (setWalkUnseen b [a] (some a)) Q E s := by
  obtain ⟨o1, es1, ep1, t1, ho1, hex1, hd1, g1, nd1, hm1, hb1, hf1, hn1, hr1, hl1⟩ := id R1
  unfold setWalkUnseen
  refine wpAny_bind (wpAny_setState_of ho hd hf ?_)
  dsimp only
  refine wpAny_bind (wpAny_byText ?_)
  by_cases c : (w.params.followText "set-order" || (t.led && t.plain) || decide (es.size ≤ 1)) = true
  · refine wp_if_pos c ?_
    exact walk ho hd hf hl fun out d pm => hQ out s.heap d pm (Heap.SameBut.refl _ _) R1
  · refine wp_if_neg c ?_
    have hnt : ¬ w.params.followText "set-order" = true := fun z => c (by rw [z]; rfl)
    have hled := hl.resolve_left hnt
    refine wpAny_bind (quiet (fun x hx => ?_) ?_)
    · rcases List.mem_cons.mp hx with rfl | hx
      · exact ⟨o, es, ep, t, ho, hd, hf, g⟩
      · rw [List.mem_singleton.mp hx]
        exact ⟨o1, es1, ep1, t1, ho1, hd1, hf1, g1⟩
    refine wp_if_neg (by simp) ?_
    refine wpAny_bind (wpAny_rule ?_)
    refine wpAny_bind (wpAny_setState_of ho1 hd1 hf1 ?_)
    dsimp only
    split
    · refine wpAny_bind (wpAny_storeSet_of ho1 hd1 (wpAny_pure (hQ es _ s.drawn (List.Perm.refl _) (Heap.SameBut.update _ _ _) ?_)) (fits_of_scanBound hb1))
      have z := putS (w := w) (S := S1) (es' := es1) (t' := { t1 with led := t1.led && t.led, plain := t1.plain && t.plain }) ho1 hex1 hd1 g1 nd1 hm1 hb1 hf1 hr1 (.inr (by
        show (t1.led && t.led) = true
        rw [hled, hl1.resolve_left hnt] <;> rfl))
      rw [hn1] at z
      exact z
    · exact wpAny_pure (hQ es s.heap s.drawn (List.Perm.refl _) (Heap.SameBut.refl _ _) R1)
theorem merge {each : Sem Unit} {Q : Unit → Shared → Prop} (hne : a ≠ b) (R1 : Rr w s.heap a S1 n1) (R2 : SetR w s.heap b S2 n2) (hn : n1 + n2 ≤ 31)
    (he : ∀ (s1 : Shared) (Q1 : Unit → Shared → Prop), s1.heap.get? b = s.heap.get? b → Q1 () s1 → wpAny (model P w) A each Q1 E s1)
    (hQ : ∀ h' d n, Heap.SameBut a s.heap h' → n ≤ n1 + n2 → (n2 = 0 → n = n1) → Rr w h' a (fun k => S1 k || S2 k) n → Q () { s with heap := h', drawn := d }) : wpAny (model P w) A (setMerge a b each) Q E s := by
  obtain ⟨o, es, ep, t, ho, hex, hd, g, nd, hm, hb, hf, hz, hr, hl⟩ := id R2
  have emp : es.isEmpty = true → ∀ k, S2 k = false := fun z k => by
    have z2 : es = #[] := by simpa using z
    cases c : S2 k with
    | false => rfl
    | true => have q := (hm k).1 c; rw [z2] at q; simp at q
  unfold setMerge
  refine wp_if_neg (by simpa using hne) ?_
  refine wpAny_bind (wpAny_setState_of ho hd hf ?_)
  dsimp only
  by_cases c : es.isEmpty = true
  · refine wp_if_pos c (wpAny_pure (hQ s.heap s.drawn n1 (Heap.SameBut.refl _ _) (by omega) (fun _ => rfl) ?_))
    rw [show (fun k => S1 k || S2 k) = S1 from funext fun k => by rw [emp c k, Bool.or_false]]
    exact R1
  refine wp_if_neg c ?_
  have hpos : 0 < es.size := by
    cases q : es.size with
    | zero => exact (c (by simpa using q)).elim
    | succ m => omega
  refine wpAny_bind (roomFor R1 (by omega) fun h1 sb1 R1' mk => ?_)
  obtain ⟨o1, es1, ep1, t1, ho1, hex1, hd1, g1, nd1, hm1, hb1, hf1, hz1, hr1, hl1⟩ := id R1'.r
  have ho' : h1.get? b = some o := (sb1.2 b (Ne.symm hne)).trans ho
  refine wpAny_bind (wpAny_setState_of ho1 hd1 hf1 ?_)
  dsimp only
  have none1 : t1.fill = 0 → n1 = 0 ∧ ∀ k, S1 k = false := fun z => by
    have q := (fit hf1).1
    have z : t1.place.size + t1.dummies.size = 0 := z
    have e0 : es1.size = 0 := by omega
    have e1 : es1 = #[] := by simpa using e0
    refine ⟨by omega, fun k => ?_⟩
    cases c : S1 k with
    | false => rfl
    | true => have q := (hm1 k).1 c; rw [e1] at q; simp at q
  have only : (∀ k, S1 k = false) → (fun k => S1 k || S2 k) = S2 := fun z => funext fun k => by rw [z k, Bool.false_or]
  have wl : w.params.followText "set-order" = true ∨ (t1.led && t.led) = true := by
    rcases hl1 with z | z
    · exact .inl z
    · exact hl.imp id fun z2 => by rw [z, z2] <;> rfl
  cases rd : t1.road t with
  | slotForSlot =>
    dsimp only
    have f0 : t1.fill = 0 := by
      unfold SetTable.road at rd
      split at rd
      · cases rd
      · rename_i q; simpa using q
    refine wpAny_storeSet_of ho1 hd1 (hQ _ s.drawn es.size (sb1.trans (Heap.SameBut.update _ _ _)) (by omega) (by omega) ?_) (fits_of_scanBound hb)
    rw [only (none1 f0).2]
    exact put ho1 hex1 hd1 g nd hm hb hf hr wl (fun q => by omega)
  | clean =>
    dsimp only
    have f0 : t1.fill = 0 := by
      unfold SetTable.road at rd
      split at rd
      · cases rd
      · rename_i q; simpa using q
    have hle := mk o1 es1 ep1 t1 ho1 hd1
    obtain ⟨t2, od, e, pm, q1, q2, q3, q4, q5⟩ := laid_ok (R1'.m o1 es1 ep1 t1 ho1 hd1 (none1 f0).1) t1.finger t1.moves (t1.led && t.led) (t1.plain && t.plain) (hs := es.map (·.1)) (by rw [Array.size_map]; exact hle)
    rw [Array.size_map] at pm q2
    have pe := picked es pm
    have sz : (od.filterMap (es[·]?)).size = es.size := by rw [← Array.length_toList, pe.length_eq, Array.length_toList]
    rw [e]
    refine wpAny_bind ?_
    show wpAny _ _ (if _ then _ else _) _ _ _
    refine wp_if_neg (by rw [sz]; simp) ?_
    refine wpAny_pure ?_
    dsimp only
    refine wpAny_storeSet_of ho1 hd1 (hQ _ s.drawn es.size (sb1.trans (Heap.SameBut.update _ _ _)) (by omega) (by omega) ?_) (fits_of_scanBound (by rw [sz]; exact hb))
    rw [only (none1 f0).2]
    have z := put (w := w) (S := S2) (es' := od.filterMap (es[·]?)) (t' := t2) ho1 hex1 hd1 (fun x hx => g x (pe.mem_iff.mp hx)) ((pe.map keyOf).nodup_iff.mpr nd) (fun k => (hm k).trans (pe.map keyOf).mem_iff.symm) (by rw [sz]; exact hb)
      (by rw [sz]; exact fit_of q2 (by rw [q2, q5, q3]; simpa using hle)) q1 (wl.imp id fun z => by rw [q4]; exact z) (fun q => by omega)
    rw [sz] at z
    exact z
  | oneByOne =>
    dsimp only
    refine wpAny_bind (unseen (s := { s with heap := h1 }) hne R1'.r ho' hd hf g hl fun out h2 d pm sb2 R2' => ?_)
    have ho2 : h2.get? b = some o := (sb2.2 b (Ne.symm hne)).trans ho'
    refine wpAny_bind (PySem.MeetsSeq2.wpAny_forIn_array _ (fun rest u s' => ∃ h3 T c, s' = { s with heap := h3, drawn := d } ∧ Heap.SameBut a h2 h3 ∧ SetR w h3 a T c ∧ c + rest.length ≤ n1 + n2 ∧ (∀ k, (T k = true ∨ k ∈ rest.map keyOf) ↔ (S1 k = true ∨ S2 k = true)) ∧ (∀ e ∈ rest, GoodE e) ∧ (0 < n1 ∨ rest ≠ [] ∨ 0 < c)) _ ?_ ?_ out _ ?_)
    · rintro ⟨hh, x⟩ rest u s' ⟨h3, T, c3, rfl, sb3, R3, cl, hT, gr, ps⟩
      obtain ⟨k, tk, rfl, rfl⟩ := gr _ List.mem_cons_self
      dsimp only
      rw [List.length_cons] at cl
      refine wpAny_bind (wpAny_holding ?_)
      refine setR_add_hashed (P := P) (w := w) (s := { s with heap := h3, drawn := d }) R3 (by unfold scanBound; omega) fun h4 sb4 R4 => ?_
      have b4 : h4.get? b = some o := (sb4.2 b (Ne.symm hne)).trans ((sb3.2 b (Ne.symm hne)).trans ho2)
      refine wpAny_bind (he _ _ (by rw [ho]; exact b4) ?_)
      refine wpAny_bind (wpAny_setState_of b4 hd hf ?_)
      dsimp only
      refine wp_if_neg (by simp) ?_
      refine wpAny_pure ?_
      refine ⟨h4, _, _, rfl, sb3.trans sb4, R4, ?_, fun j => ?_, fun e he => gr e (List.mem_cons_of_mem _ he), ?_⟩
      · split <;> omega
      · rw [← hT j, Bool.or_eq_true, decide_eq_true_eq, List.map_cons, List.mem_cons]
        show _ ↔ T j = true ∨ j = k ∨ _
        constructor
        · rintro ((z | z) | z)
          · exact .inl z
          · exact .inr (.inl z)
          · exact .inr (.inr z)
        · rintro (z | z | z)
          · exact .inl (.inl z)
          · exact .inl (.inr z)
          · exact .inr z
      · cases hk : T k with
        | true =>
          rcases ps with z | z | z
          · exact .inl z
          · refine .inr (.inr ?_)
            simp only [if_true]
            obtain ⟨_, es3, _, _, _, _, _, _, _, hm3, _, _, hz3, _⟩ := R3
            have q := (hm3 k).1 hk
            rw [← hz3, ← Array.length_toList, ← List.length_map (f := keyOf)]
            exact List.length_pos_of_mem q
          · exact .inr (.inr (by simpa using z))
        | false => exact .inr (.inr (by simp))
    · rintro u s' ⟨h3, T, c3, rfl, sb3, R3, cl, hT, _, ps⟩
      have e : T = fun k => S1 k || S2 k := funext fun k => by
        have q := hT k
        simp only [List.map_nil, List.not_mem_nil, or_false] at q
        rw [← Bool.or_eq_true] at q
        exact Bool.eq_iff_iff.mpr q
      rw [e] at R3
      have p3 : 0 < c3 := by
        rcases ps with z | z | z
        · obtain ⟨_, es3, _, _, _, _, _, g3, nd3, hm3, _, _, hz3, _⟩ := R3
          have q0 : 0 < es1.toList.length := by rw [Array.length_toList]; omega
          obtain ⟨x, hx⟩ := List.exists_mem_of_length_pos q0
          have q1 := (hm1 (keyOf x)).2 (List.mem_map.mpr ⟨x, hx, rfl⟩)
          have q2 := (hm3 (keyOf x)).1 (by show (S1 (keyOf x) || S2 (keyOf x)) = true; rw [q1]; rfl)
          rw [← hz3, ← Array.length_toList, ← List.length_map (f := keyOf)]
          exact List.length_pos_of_mem q2
        · exact (z rfl).elim
        · exact z
      exact wpAny_pure (hQ h3 d c3 (sb1.trans (sb2.trans sb3)) (by simpa using cl) (by omega) ⟨R3, fun _ _ _ _ _ _ q => absurd q (by omega)⟩)
    · have pk := pm.map keyOf
      refine ⟨h2, S1, n1, rfl, Heap.SameBut.refl _ _, R2', ?_, fun k => ?_, fun e he => g e (pm.mem_iff.mp he), .inr (.inl fun q => ?_)⟩
      · rw [pm.length_eq, Array.length_toList, hz]
        exact Nat.le_refl _
      · rw [pk.mem_iff, ← hm k]
      · have := pm.length_eq
        rw [q, Array.length_toList] at this
        simp at this
        omega
end
end SU
namespace SU
open PySem PySem.Spec PyProof.Rows L2
theorem entry_or : entryFor table "set.__or__" = some Builtin.«frozenset.__or__» :=
  entryFor_alias (id' := "frozenset.__or__") (by kernel_rfl) rfl (by decide +kernel) (by kernel_rfl)
section
variable {P : Program} {w : World} {A : Around} {E : Value → Shared → Prop} {s : Shared} {a b : Addr} {S S1 S2 : Int → Bool} {n n1 n2 : Nat}
theorem isSet {Q : Bool → Shared → Prop} (R : SetR w s.heap a S n) (h : Q true s) : wpAny (model P w) A (Builtin.Frozenset.isAnySet (.ref a)) Q E s := by
  obtain ⟨o, es, ep, t, ho, hex, _⟩ := R
  unfold Builtin.Frozenset.isAnySet
  refine wpAny_bind (wpAny_isInstance (b := true) ⟨o, ho, hex.1⟩ sub_set_self ?_)
  exact wpAny_pure h
theorem baseSet {Q : Value → Shared → Prop} (R : SetR w s.heap a S n) (h : Q (.type "set") s) : wpAny (model P w) A (Builtin.Frozenset.baseOf a) Q E s := by
  obtain ⟨o, es, ep, t, ho, hex, _⟩ := R
  unfold Builtin.Frozenset.baseOf
  refine wpAny_bind (wpAny_isInstance (b := true) ⟨o, ho, hex.1⟩ sub_set_self ?_)
  exact wpAny_pure h
theorem rrNew {h : Heap} : Rr w (h.push { cls := .type "set", dict := none, data := .set #[] 0 (.fresh 0 0 (!w.params.followText "set-order")) }) h.objs.size (fun _ => false) 0 := by
  refine ⟨setR_fresh w, fun o es ep t q1 q2 _ => ?_⟩
  rw [Heap.get?_push_size _ rfl] at q1
  cases q1
  cases q2
  exact rnd7
theorem copied {Q : Value → Shared → Prop} (R : SetR w s.heap a S n) (hn : n ≤ 31) (hQ : ∀ h' d n', n' ≤ n → (∀ b o, s.heap.get? b = some o → h'.get? b = some o) → Rr w h' s.heap.objs.size S n' → Q (.ref s.heap.objs.size) { s with heap := h', drawn := d }) :
    wpAny (model P w) A (Builtin.Frozenset.copyOf a) Q E s := by
  have la := R.lt
  unfold Builtin.Frozenset.copyOf
  refine wpAny_bind (m := Builtin.Frozenset.baseOf a) (baseSet R ?_)
  refine wpAny_bind (PpSet.newSet_ok ?_)
  refine wpAny_bind (m := Builtin.Frozenset.addrOf _) (wpAny_pure ?_)
  have hr := R.at (h' := s.heap.push { cls := .type "set", dict := none, data := .set #[] 0 (.fresh 0 0 (!w.params.followText "set-order")) }) fun o e => Heap.get?_push_of_some _ e
  refine wpAny_bind (merge (Nat.ne_of_gt la) rrNew hr (by omega) (fun s1 Q1 _ q => wpAny_pure q) fun h' d n' sb le _ R' => ?_)
  refine wpAny_pure (hQ h' d n' (by omega) (fun b o e => ?_) ?_)
  · exact (sb.2 b (Nat.ne_of_lt (Heap.lt_size e))).trans (Heap.get?_push_of_some _ e)
  · have e : (fun k => false || S k) = S := funext fun k => Bool.false_or _
    rw [e] at R'
    exact R'
theorem same (R1 : SetR w s.heap a S1 n1) (R2 : SetR w s.heap a S2 n2) : (fun k => S1 k || S2 k) = S1 := by
  obtain ⟨o, es, ep, t, ho, hex, hd, _, _, hm, _⟩ := R1
  obtain ⟨o2, es2, ep2, t2, ho2, _, hd2, _, _, hm2, _⟩ := R2
  rw [ho] at ho2
  cases ho2
  rw [hd] at hd2
  cases hd2
  exact funext fun k => by
    have e : S2 k = S1 k := Bool.eq_iff_iff.mpr ((hm2 k).trans (hm k).symm)
    rw [e, Bool.or_self]
theorem union {Q : Value → Shared → Prop} (R1 : SetR w s.heap a S1 n1) (R2 : SetR w s.heap b S2 n2) (hn : n1 + n2 ≤ 31)
    (hQ : ∀ h' d n', n' ≤ n1 + n2 → (∀ b o, s.heap.get? b = some o → h'.get? b = some o) → SetR w h' s.heap.objs.size (fun k => S1 k || S2 k) n' → Q (.ref s.heap.objs.size) { s with heap := h', drawn := d }) :
    wpAny (model P w) A (binaryOp .BitOr (.ref a) (.ref b)) Q E s := by
  have t1 : s.TypeIs (.ref a) "set" := R1.setOf (P := P).typeIs
  have t2 : s.TypeIs (.ref b) "set" := R2.setOf (P := P).typeIs
  refine wpAny_binaryOp_same (op := .BitOr) t1 t2 PySem.F.fills_set_or PySem.F.slot_set_or ?_
  refine wpAny_call_entry PySem.F.slot_set_or t1 entry_or ?_ (PySem.F.args_set_or_2 _ _)
  unfold Builtin.«frozenset.__or__»
  refine wpAny_bind (wpAny_of_eq (a := ((Value.ref a : Value), (Value.ref b : Value))) (by rfl) ?_)
  simp only [Bool.false_eq_true, if_false]
  refine wpAny_bind ?_
  show wpAny _ _ (Builtin.Frozenset.isAnySet (.ref a) >>= _) _ _ _
  refine wpAny_bind (isSet R1 ?_)
  refine isSet R2 ?_
  refine wp_if_neg (by simp) ?_
  refine wpAny_bind (m := Builtin.Frozenset.addrOf _) (wpAny_pure ?_)
  refine wpAny_bind ?_
  refine wpAny_bind (copied R1 (by omega) fun h' d n' le k R' => ?_)
  have nn : ∀ {v : Value} {s' : Shared}, Q v s' → v ≠ Value.notImplemented → wpAny (model P w) A.in1 (ret v) (fun fin s' => ∃ v, fin = Fin.done (Flow.ret v) ∧ v ≠ Value.notImplemented ∧ Q v s') E s' := fun q z => wpAny_pure ⟨_, rfl, z, q⟩
  by_cases c : b = a
  · subst c
    refine wp_if_neg (by simp) ?_
    refine wpAny_pure (nn (hQ h' d n' (by omega) k ?_) (by simp))
    rw [same R1 R2]
    exact R'.r
  · refine wp_if_pos (by simpa using c) ?_
    refine wpAny_bind (m := Builtin.Frozenset.addrOf _) (wpAny_pure ?_)
    refine wpAny_bind (wpAny_holding ?_)
    have R2' : SetR w h' b S2 n2 := R2.at fun o e => k b o e
    unfold Builtin.Frozenset.updateFrom
    refine wpAny_bind (isSet (s := { s with heap := h', drawn := d }) R2' ?_)
    refine wp_if_pos rfl ?_
    refine wpAny_bind (m := Builtin.Frozenset.addrOf _) (wpAny_pure ?_)
    unfold Builtin.Frozenset.merge
    obtain ⟨o2, es2, ep2, t2, ho2, hex2, hd2, g2, nd2, hm2, hb2, hf2, hz2, hr2, hl2⟩ := id R2'
    refine wpAny_bind (wpAny_setEpoch_of ho2 hd2 hf2 ?_)
    have lb := R2.lt
    refine merge (s := { s with heap := h', drawn := d }) (Nat.ne_of_gt lb) R' R2' (by omega) (fun s1 Q1 e q => ?_) fun h2 d2 n3 sb le2 _ R3 => ?_
    · unfold Builtin.Frozenset.unchanged
      refine wpAny_bind (wpAny_setEpoch_of (e.trans ho2) hd2 hf2 ?_)
      exact wp_if_neg (by simp) (wpAny_pure q)
    · refine wpAny_pure (nn (hQ h2 d2 n3 (by omega) (fun x o e => ?_) R3.r) (by simp))
      exact (sb.2 x (Nat.ne_of_lt (Heap.lt_size e))).trans (k x o e)
end
end SU
namespace SU
open PySem PySem.Spec PyProof.Rows L2
abbrev nw (w : World) : Obj := { cls := .type "set", dict := none, data := .set #[] 0 (.fresh 0 0 (!w.params.followText "set-order")) }
section
variable {P : Program} {w : World} {A : Around} {E : Value → Shared → Prop} {s : Shared}
theorem setList {l : Addr} {its : Array Value} (ns : List Int) {Q : Value → Shared → Prop} (hh : A.handled = none) (hl : s.heap.IsList l its) (hi : IntsAre its.toList ns) (hb : ns.length + 1 < scanBound)
    (h : ∀ (h' : Heap) (tk c : Nat), SetR w h' s.heap.objs.size (fun j => decide (j ∈ ns)) c → c ≤ ns.length → (∀ b o, s.heap.get? b = some o → h'.get? b = some o) → Q (.ref s.heap.objs.size) { s with heap := h', toks := tk }) :
    wpAny (model P w) A (call (.type "set") [.ref l]) Q E s := by
  have hz : its.size = ns.length := by
    have q := hi.length
    simpa using q
  obtain ⟨c, tl, hmro⟩ := PySem.F.called_set.mro
  have f1 := PySem.F.called_set.made
  have f2 := PySem.F.called_set.sub
  have f3 := PySem.F.called_set.notType
  have f4 := PySem.F.called_set.canCreate
  have f5 := PySem.F.typeCall_set_1 (.ref l)
  refine wpAny_call (codeAny_of_tree ?_)
  show wpAny _ _ (callAny (.type "set") _) _ _ _
  refine wpAny_pure ⟨Code.quiet_builtin _ (by decide +kernel), codeAny_builtin PySem.F.entry_type_call ?_⟩
  rw [Around.under_plain (weight_type_call_type "set" [.ref l] []) rfl]
  repeat (any_goals (first | assumption | wp_step))
  refine codeAny_mono (code_set_led1 (.ref l) (E := E) (Q₁ := fun v s1 => v = .ref s.heap.objs.size ∧ s1 = { s with heap := s.heap.push (nw w) }) ⟨rfl, rfl⟩) fun r s1 hr => ?_
  cases r with
  | error e => exact hr
  | ok fl =>
    cases fl with
    | ret v =>
      obtain ⟨rfl, rfl⟩ := hr
      have g0 : (s.heap.push (nw w)).get? s.heap.objs.size = some (nw w) := Heap.get?_push_size _ rfl
      have ty : Shared.TypeIs { s with heap := s.heap.push (nw w) } (.ref s.heap.objs.size) "set" := ⟨_, g0, rfl⟩
      have f6 := PySem.F.called_set.init.lookup
      have f7 := PySem.F.called_set.init.bind (.ref s.heap.objs.size)
      repeat (any_goals (first | assumption | wp_step))
      refine codeAny_mono (codeAny_call_builtin (R := wants (fun r s2 => r = .none ∧ ∃ h' tk c, s2 = { s with heap := h', toks := tk } ∧ SetR w h' s.heap.objs.size (fun j => decide (j ∈ ns)) c ∧ c ≤ ns.length ∧
          (∀ b o, s.heap.get? b = some o → h'.get? b = some o)) E) PySem.F.called_set.init.plain PySem.F.entry_set_init (check_set_init_1 ty ?_)) fun r2 s2 hr2 => ?_
      · obtain ⟨⟨oc, od, oda, osl⟩, hol, hcl, nl, hdl⟩ := hl
        simp only at hcl hdl
        subst hcl; subst hdl
        have ol2 := Heap.get?_push_of_some (nw w) hol
        have k1 := PySem.F.sub_list_set
        have k2 := PySem.F.sub_list_frozenset
        have k3 : (Value.type "list" == Value.type "dict") = false := by decide
        have hl1 : (s.heap.push (nw w)).IsList l its := ⟨_, ol2, rfl, nl, rfl⟩
        unfold Builtin.«set.__init__» noKeywords Builtin.Frozenset.updateFrom
        generalize hPI : pyIter = PI
        wp_walk
        subst hPI
        refine wpAny_pyIter_list hl1 ?_
        refine wpAny_bind (wpAny_runValue ?_)
        have lS : l < s.heap.objs.size := Heap.lt_size hol
        have z1 : (s.heap.push (nw w)).objs.size = s.heap.objs.size + 1 := Heap.size_push ..
        have hh3 : A.in1.in1.in1.handled = none := by simp [hh]
        have val : ∀ (i : Nat) (v : Value), its[i]? = some v → ∃ k t, ns[i]? = some k ∧ v = .int k t := fun i v hv => by
          have il : i < ns.length := by rw [← hz]; exact (Array.getElem?_eq_some_iff.mp hv).1
          obtain ⟨t, e⟩ := IntsAre.int_at hi i v (by rw [Array.getElem?_toList]; exact hv)
          exact ⟨ns[i], t, List.getElem?_eq_getElem il, by rw [e, List.getD_eq_getElem?_getD, List.getElem?_eq_getElem il] <;> rfl⟩
        refine set_update_ints ((Walks.list hh3 _ l (z1 ▸ Nat.ne_of_lt (Nat.lt_succ_of_lt lS)) its).toS) s.heap.objs.size (fun q => by
          rcases List.mem_cons.mp q with q | q
          · exact Nat.ne_of_lt (Nat.lt_succ_self _) (q.trans z1)
          · exact Nat.ne_of_gt lS (List.mem_singleton.mp q)) ns hz hb val (its.size - 0) 0 _ (by omega) (Nat.zero_le _) ⟨⟨_, Heap.get?_push_size _ rfl, rfl, rfl⟩, (hl1.push _)⟩ ?k0 ?k9
        case k0 => exact ⟨0, Nat.le_refl 0, setR_new_at (Heap.get?_push_of_some _ g0)⟩
        case k9 =>
          intro s' c' hm hc' hS'
          obtain ⟨h', g2, d', tk', os'⟩ := s'
          have e1 : g2 = s.gens := hm.gens
          have e2 : d' = s.drawn := hm.drawn
          have e3 : os' = s.os := hm.os
          subst e1; subst e2; subst e3
          show wpAny _ _ _ _ _ _
          refine wpAny_pure ?_
          show wpAny _ _ (ret Value.none) _ _ _
          rw [hz] at hc'
          refine wpAny_pure ⟨rfl, h', tk', c', rfl, hS', hc', fun b o e => ?_⟩
          have b0 : b < s.heap.objs.size := Heap.lt_size e
          exact hm.heap b o (fun q => by
            rcases List.mem_cons.mp q with q | q
            · exact Nat.ne_of_lt b0 q
            · exact Nat.ne_of_lt (Nat.lt_succ_of_lt b0) ((List.mem_singleton.mp q).trans z1)) (Heap.get?_push_of_some _ (Heap.get?_push_of_some _ e))
      · cases r2 with
        | error e => exact hr2
        | ok f2 =>
          cases f2 with
          | ret r =>
            obtain ⟨rfl, h', tk, c', rfl, hS', hc', hk'⟩ := hr2
            repeat (any_goals (first | assumption | wp_step))
            exact h _ _ _ hS' hc' hk'
          | _ => exact hr2.elim
    | _ => exact hr.elim
end
end SU
namespace DL
variable [Tb]
open PySem PySem.Spec PyProof.Rows L2 Evl
def Few (ns : List Int) (c : Nat) : Prop := c ≤ ns.length ∧ ∃ ks : List Int, ks.Nodup ∧ ks.length = c ∧ ∀ k ∈ ks, k ∈ ns
theorem few_of {w : World} {h : Heap} {a : Addr} {ns : List Int} {c : Nat} (R : SetR w h a (fun j => decide (j ∈ ns)) c) (le : c ≤ ns.length) : Few ns c := by
  obtain ⟨o, es, ep, t, ho, hex, hd, g, nd, hm, hb, hf, hn, hr, hl⟩ := R
  exact ⟨le, es.toList.map keyOf, nd, by rw [List.length_map, Array.length_toList, hn], fun k hk => of_decide_eq_true ((hm k).mpr hk)⟩
def rSetI (K : PySem.W.Frag) (w : World) : List V → Hp → VK → Prop := fun vs H Q => ∃ (a : Addr) (ns : List Int), vs = [V.ref a] ∧ (SqL K H a (ns.map V.int) ∨ SqT K H a (ns.map V.int)) ∧ ns.length ≤ 60 ∧
  ∀ p c, H p = none → Few ns c → Q (.ref p) (upd H p (SetO w p (fun j => decide (j ∈ ns)) c))
def rUnion (w : World) : V → V → Hp → VK → Prop := fun x y H Q => ∃ (a b : Addr) (S T : Int → Bool) (n m : Nat), x = .ref a ∧ y = .ref b ∧ H a = some (SetO w a S n) ∧ H b = some (SetO w b T m) ∧ n + m ≤ 31 ∧
  ∀ p c, H p = none → c ≤ n + m → Q (.ref p) (upd H p (SetO w p (fun k => S k || T k) c))
section
variable {X : Cx}
theorem cr_setI (hc : X.calm = true) : CallR X (.type "set") (rSetI X.K X.w) := by
  intro pins s σ H vs us Q I r h
  obtain ⟨a, ns, rfl, hs, hn, q⟩ := h
  rw [Vals.ref1 r]
  have hp : H s.heap.objs.size = none := I.hok.fresh (Nat.le_refl _)
  rcases hs with hs | hs
  · obtain ⟨its, rv, pl, hz⟩ := I.list hs
    refine SU.setList ns (I.ok.hd hc) pl.isList (by simpa using rv.ints) (by unfold scanBound; omega) fun h' tk c R le k => ?_
    exact ⟨.ref s.heap.objs.size, _, I.laid (t' := tk) k (Nat.le_refl _) (setO_new R), rfl, q _ c hp (few_of R le)⟩
  · obtain ⟨its, rv, pt, _⟩ := I.tuple hs
    refine call_set_tupI ns (I.ok.hd hc) (show s.heap.IsTuple a its.toArray from pt) (by simpa using rv.ints) (by unfold scanBound; omega) fun h' tk c R le k => ?_
    exact ⟨.ref s.heap.objs.size, _, I.laid (t' := tk) k (Nat.le_refl _) (setO_new R), rfl, q _ c hp (few_of R le)⟩
theorem or_union : OpR X (binaryOp .BitOr) (rUnion X.w) := by
  intro pins s σ H x y v u Q I rx ry h
  obtain ⟨a, b, S, T, n, m, rfl, rfl, ha, hb, hn, q⟩ := h
  cases rx
  cases ry
  have hp : H s.heap.objs.size = none := I.hok.fresh (Nat.le_refl _)
  refine SU.union (setO_get I ha) (setO_get I hb) hn fun h' d c le k R => ?_
  have J : Inv X pins σ (upd H s.heap.objs.size (SetO X.w s.heap.objs.size (fun k => S k || T k) c)) { s with heap := h', drawn := d } :=
    I.call (ch := []) (Un.laid k (Nat.le_refl _) hp) (I.hok.laid k (Nat.le_refl _) (setO_new R)) I.bare (fun _ z => nomatch z)
  exact ⟨.ref _, _, J, rfl, q _ c hp le⟩
end
def tW (t : Program → World → TE) : TE := fun σ H Q => ∀ P w, t P w σ H Q
theorem pe_w {X : Cx} {e : Expr} {t : Program → World → TE} (h : PE X e (t X.prog X.w)) : PE X e (tW t) := ⟨fun pins s σ H Q I q => h.run pins s σ H Q I (q X.prog X.w)⟩
section
variable {K : PySem.W.Frag} {B : Base} {G H : Hp} {δ : En} {te tb : TE}
theorem free_mu (I : Iv B G H) {p : Addr} (h : H p = none) : ¬ B.mu p := fun m => (I.dr p m).2.nn h
theorem rowInts {v : V} {ns : List Int} {d : PyData} (I : Iv B G H) (hd : RowV (ns.map PyData.int) d) (r : Rp K G v d) : ∃ a, v = .ref a ∧ (SqL K H a (ns.map V.int) ∨ SqT K H a (ns.map V.int)) := by
  rcases hd with rfl | rfl
  · obtain ⟨a, xs, rfl, ha, rx⟩ := r.l
    rw [rx.ints] at ha
    exact ⟨a, rfl, .inl (sq_of (I.gh _ _ ha))⟩
  · obtain ⟨a, xs, rfl, ha, rx⟩ := r.t
    rw [rx.ints] at ha
    exact ⟨a, rfl, .inr (ex_t I.gh ha)⟩
theorem el_sortU {ns ms : List Int} (h : ED K B te δ (RowV (ns.map PyData.int))) (k : ED K B tb δ (RowV (ms.map PyData.int))) {b1 b2 : Nat} (f1 : ∀ c, Few ns c → c ≤ b1) (f2 : ∀ c, Few ms c → c ≤ b2) (hb : b1 + b2 ≤ 31) (z1 : ns.length ≤ 60) (z2 : ms.length ≤ 60) :
    EL K B (tW fun _ w => tCB (rSortedSet w) (tCons (tOp (rUnion w) (tCB (rSetI K w) (tCons te tNil)) (tCB (rSetI K w) (tCons tb tNil))) tNil)) δ
      (fun es => ∃ out : List Int, es = out.map PyData.int ∧ out.Pairwise (· < ·) ∧ ∀ x, x ∈ out ↔ x ∈ ns ∨ x ∈ ms) := fun G H σ Ev Q q _ w => h G H σ Ev _ fun v d G1 H1 pd m r => by
  have I1 := Ev.iv.at m
  obtain ⟨a, rfl, ha⟩ := rowInts I1 pd r
  refine ⟨a, ns, rfl, ha, by omega, fun p c hp le => ?_⟩
  have m2 := Gm.newH (o := SetO w p (fun j => decide (j ∈ ns)) c) I1 hp
  have I2 := I1.at m2
  have m12 := m.trans m2 Ev.iv
  refine k G1 _ σ (Ev.at m12) _ fun v2 d2 G3 H3 pd2 m3 r2 => ?_
  have I3 := I2.at m3
  obtain ⟨b, rfl, hb⟩ := rowInts I3 pd2 r2
  refine ⟨b, ms, rfl, hb, by omega, fun p2 c2 hp2 le2 => ?_⟩
  have m4 := Gm.newH (o := SetO w p2 (fun j => decide (j ∈ ms)) c2) I3 hp2
  have I4 := I3.at m4
  have hp3 : H3 p = some (SetO w p (fun j => decide (j ∈ ns)) c) := m3.hh p _ upd_same (free_mu I1 hp)
  have ne : p ≠ p2 := fun e => by rw [e, hp2] at hp3; cases hp3
  refine ⟨p, p2, _, _, c, c2, rfl, rfl, by rw [upd_ne ne]; exact hp3, upd_same, by have := f1 c le; have := f2 c2 le2; omega, fun p3 c3 hp4 le3 => ?_⟩
  have m5 := Gm.newH (o := SetO w p3 (fun k => decide (k ∈ ns) || decide (k ∈ ms)) c3) I4 hp4
  have I5 := I4.at m5
  refine ⟨p3, _, c3, rfl, upd_same, by have := f1 c le; have := f2 c2 le2; omega, fun out p5 st mem _ hp5 => ?_⟩
  have m6 := Gm.newH (o := .lst (out.map V.int)) I5 hp5
  have mm := m12.trans (m3.trans (m4.trans (m5.trans m6 I4) I3) I2) Ev.iv
  refine q p5 _ _ _ _ ⟨out, rfl, st, fun x => by rw [mem x, Bool.or_eq_true, decide_eq_true_eq, decide_eq_true_eq]⟩ mm (back Ev.iv m12 (back I2 m3 (back I3 m4 (back I4 m5 hp5)))) (g_none I5 hp5) upd_same (RpA.ofInts _)
end
end DL
namespace DL
variable [Tb]
open PySem PySem.Spec PyProof.Rows L2 Evl
section
variable {K : PySem.W.Frag} {B : Base} {δ : En} {te : TE} {tA : TA} {P : Pd} {R : XR} {E : XK} {U : Addr → Sp → Prop} {es : List PyData} {n : Nat}
end
end DL
namespace DL
variable [Tb]
open PySem PySem.Spec PyProof.Rows L2 Evl
theorem pmk_own0 {X : Cx} {C : Addr} {bmB : List Value} {B newId initId : String} {x : Str} {p pos : Pos} (F : ExcBaseFacts B newId initId bmB) (q : PySem.W.excIn X.K C bmB newId = true) (kC : PySem.W.keepIn X.K (.ref C) = true) (r : Raises X (.ref C))
    (ld : PE X (.Name x p) (tC (.ref C))) : PMk X (.Call (.Name x p) [] [] pos) (fun _ H Q => Q (.ref C) none H) := fun pins s σ H Q I h => by
  refine PyProof.Rows.Call_Name0 (wpAny_mono (ld.run pins s σ H (fun v H' => v = .ref C ∧ H' = H) I ⟨rfl, rfl⟩) (fun u s1 ⟨v, H', I1, rv, e1, e2⟩ => ?_) (fun _ _ q => q))
  subst e1; subst e2
  cases (show u = Value.ref C from rv)
  show wpAny _ _ (callWith pos (.ref C) [] (backTo pos (starEach [] X.env)) []) _ _ _
  obtain ⟨bm, N, nm, qn, bs, hdct, sn, sub, ab, col, dd, k0, k1, k2, k3, k5, mN, h1, h2, h3, h4⟩ := exc_obj I1.kIn q
  refine PySem.W.callWith_K0 I1.kIn kC ?_
  exact wpAny_call_exc_subT F h4 h1 h2 h3 (fun h' e M => L2.mk_of I1 M r h (I1.hok.gone M.new))
structure Err0 (K : PySem.W.Frag) (mg : Str → Option Value) (C : Addr) (x : Str) : Prop where
  e : PySem.W.excIn K C He.veBase "ValueError.__new__" = true
  k : PySem.W.keepIn K (.ref C) = true
  s : PySem.W.subIn K (.ref C) (.type "BaseException") = some true
  t : PySem.W.typeIn K (.ref C) = some (.type "type")
  m : mg x = some (.ref C)
def RzOk0 (K : PySem.W.Frag) (mg : Str → Option Value) (b : Bool) (C : Addr) (x : Str) : Prop := b = true → Err0 K mg C x
def tRz0 (b : Bool) (C : Addr) (E : XK) : TS := match b with
  | true => fun _ _ H => E (.ref C) none H
  | false => tNever
theorem ps_rz0 {X : Cx} {x : Str} {C : Addr} {b : Bool} {p pos pos2 : Pos} {E : XK} (hc : X.calm = true) (tk : Takes X (fun cls d _ H => E cls d H)) (e0 : RzOk0 X.K X.mg b C x) (hg : Gl X x := by rfl) (hdb : (x == ("__debug__" : Str)) = false := by decide) : PS X (.Raise (some (.Call (.Name x p) [] [] pos)) none pos2) (tRz0 b C E) := by
  cases b with
  | false => exact ps_never
  | true =>
    have T := e0 rfl
    exact ps_raise hc tk (pmk_own0 PySem.F.excBase_ValueError T.e T.k (L2.raises_own T.s T.t) (pe_glob hg T.m rfl (hd := hdb)))
theorem sd_rz0 {K : PySem.W.Frag} {B : Base} {δ : En} {C : Addr} {E : XK} {R : XR} {Po' : Po} (hE : EOk K B E R) (hR : R C []) : SD K B (tRz0 true C E) δ Po' := fun G H σ D Ev _ _ _ _ => hE C [] [] none G H hR ⟨rfl, .nil⟩ Ev.iv rfl
end DL
namespace DL
variable [Tb]
open PySem PySem.Spec PySem.Calls PyProof.Rows L2 Evl LamX PySem.W
def lenKey (l : List Int) : PyData := .tuple [.int l.length, .tuple (l.map PyData.int)]
theorem reads_ints {h : Heap} : ∀ {vs : List Value} {ns : List Int}, IntsAre vs ns → ReadsAll h vs (ns.map PyData.int) []
  | [], ns, hi => by cases ns with
    | nil => exact .nil
    | cons n ns => cases hi
  | v :: vs, ns, hi => by
    cases hi with
    | cons n t r => exact .cons (.int _ _) (reads_ints r)
theorem key_call {prog : Program} {w : World} {A : Around} {s : Shared} {f c' a : Addr} {qual : Str} {params : Arguments} {scope : Scope} {pm ctv : Value} {k : Nat} {p1 p2 p3 p4 pos : Pos} {mg mb : Str → Option Value} {its : List Value} {ns : List Int}
    (hroom : A.depth < recursionLimit) (hf : s.heap.get? f = some (kla_obj "<lambda>" qual params (.Tuple [.Call (.Name "len" p1) [.Name "lot" p2] [] p3, .Name "lot" p4] k pos) scope [] pm c' ctv))
    (hk : scope.kind = .function) (hco : scope.isCoroutine = false) (hgen : scope.isGenerator = false) (hcell : ∀ x ∈ scope.names, x.2 ≠ .cell) (hn : scope.names.lookup ("lot" : Str) = some NameKind.local) (hl : scope.names.lookup ("len" : Str) = some NameKind.globalImplicit)
    (hbind : bindArgs (kla_fn "<lambda>" qual params (.Tuple [.Call (.Name "len" p1) [.Name "lot" p2] [] p3, .Name "lot" p4] k pos) scope [] pm (.ref c') ctv) ⟨[.ref a], []⟩ = pure [(("lot" : Str), Value.ref a)])
    (hcd : s.heap.CodeRec (.ref c') qual) (lim : s.heap.NoLimit) (g : s.heap.Ns mainGlobals mg) (hm : mg "len" = none) (b : s.heap.Ns builtinsNs mb) (hbb : mb "len" = some (.builtin "len"))
    (ht : IsTup s.heap a its.toArray) (hi : IntsAre its ns) (hz : ns.length ≤ 100000) :
    wpAny (model prog w) A (call (.ref f) [.ref a]) (KeyPure (lenKey ns) s) (fun _ _ => False) s := by
  refine wpAny_call ?_
  refine codeAny_mono (R := fun r s' => ∃ v, r = .ok (.ret v) ∧ KeyPure (lenKey ns) s v s') ?_ fun r s' h => ?_
  · refine kla_callFunE hroom hf rfl hco hgen rfl hcd ?_
    rw [hbind]
    refine wpAny_pure (wpAny_newFunctionEnv hcell (fun y hy => by
      rw [List.mem_singleton.mp hy]
      exact hn) (fun h₁ hns hsb => ⟨lim.fresh _ hsb, ?_⟩) hk)
    have kp : ∀ b o, s.heap.get? b = some o → h₁.get? b = some o := fun b o e => hsb.extBut b o (Nat.ne_of_lt (Heap.lt_size e)) (Heap.get?_push_of_some _ e)
    show codeAny _ _ (.expr _ (envX qual scope s.heap.objs.size f (.ref c') [])) _ _
    refine kla_codeExpr (wpAny_Tuple ?_)
    have gl : ∀ {h : Heap}, (∀ b o, h₁.get? b = some o → h.get? b = some o) → ∀ b o, s.heap.get? b = some o → h.get? b = some o := fun q b o e => q b o (kp b o e)
    have vlot : ∀ {s2 : Shared} {Q : Value → Shared → Prop} {E : Value → Shared → Prop} {p : Pos} {A2 : Around}, s2.heap = h₁ → Q (.ref a) s2 → wpAny (model prog w) A2 (eval (.Name "lot" p) (envX qual scope s.heap.objs.size f (.ref c') [])) Q E s2 := fun {s2 Q E p A2} eh h =>
      wpAny_Name (wpAny_loadName_local hk hn (by rw [eh]; exact hns) rfl h)
    refine spliced_cons (wpAny_Call_Name_kw (Name_function_global hk hl (loadGlobal_builtin (g.keeps kp) hm (b.keeps kp) hbb ?_)))
    refine PyProof.Rows.callWith_builtin1 ?_ rfl rfl
    refine spliced_cons (vlot rfl (spliced_nil ?_))
    have hlen := hi.length
    have ht1 : IsTup h₁ a its.toArray := by
      obtain ⟨o, e, r⟩ := ht
      exact ⟨o, kp _ _ e, r⟩
    refine len_tuple ht1 (by rw [List.size_toArray]; have := hlen; omega) ?_
    have en : (its.toArray.size : Int) = (ns.length : Int) := by rw [List.size_toArray, hlen]
    rw [en]
    refine spliced_cons (vlot rfl (spliced_nil ⟨by rw [sizeLine_eq]; simp, ?_⟩))
    refine ⟨_, rfl, _, _, rfl, fun b o e => Heap.get?_push_of_some _ (kp b o e), ?_⟩
    obtain ⟨o, e, hc, n, hd⟩ := ht1
    refine .tuple (Heap.get?_push_size _ rfl) rfl rfl (.cons (.int _ _) (.cons (.tuple (Heap.get?_push_of_some _ e) hc hd (reads_ints hi)) .nil))
  · obtain ⟨v, rfl, q⟩ := h
    exact q
def ExtP (P : Addr) (H H' : Hp) : Prop := ∀ b o, b ≠ P → H b = some o → H' b = some o
theorem lam_made {X : Cx} {pins : List (Addr × Obj)} {σ : L2.St} {H : Hp} {s : Shared} {c P : Addr} {params : Arguments} {body : Expr} {scope : Scope} {pos : Pos} {E : Value → Shared → Prop} {Q : Value → Shared → Prop} (I : L2.Inv X pins σ H s) (TB : TabB X.base X.mg c P) (hcode : X.env.code = .ref c)
    (hT : TabS H P (X.env.qual ++ "<lambda>")) (hdef : defaultsOf params X.env = ([], [])) (hfree : ∀ y ∈ scope.names, y.2 = .free → ∃ c, X.env.cells.lookup y.1 = some c)
    (h : ∀ (f c' : Addr) (pm ctv : Value) (H1 : Hp) (s' : Shared), L2.Inv X pins σ H1 s' → ExtP P H H1 → TabS H1 P (X.env.qual ++ "<lambda>") →
      s'.heap.get? f = some (kla_obj "<lambda>" (X.env.qual ++ "<lambda>") params body scope (cloFrom X.env.cells scope.names []) pm c' ctv) → H1 c' = some (CodeO c' (X.env.qual ++ "<lambda>")) → Q (.ref f) s') :
    wpAny (model X.prog X.w) X.A (eval (.Lambda params body scope pos) X.env) Q E s := by
  obtain ⟨ps, hP, ht, ha⟩ := hT
  refine kla_eval hdef ?_
  have b0 : s.heap.BuiltinsAt X.mg P := TB.bm.keeps I.bk
  have g0 := I.mod.glob.keeps I.bk
  have o0 := I.hok P _ hP
  have c0 := TB.code.keeps I.bk
  cases hc : codeAmong pos ps.toList with
  | some cv =>
    obtain ⟨c', rfl, hco⟩ := ha pos cv hc
    exact kla_makeFunctionHit (mg := X.mg) (c := c) (P := P) (ps := ps) (closure_ok hfree) I.ok.glob g0 hcode c0 o0 ht hc b0 fun ctv h' tk hx hsz =>
      h _ c' _ ctv H _ (I.kept fun b o e => Heap.get?_push_of_some _ (hx b o e)) (fun _ _ _ e => e) ⟨ps, hP, ht, ha⟩ (Heap.get?_push_size _ rfl) hco
  | none =>
    refine kla_makeFunction (mg := X.mg) (c := c) (P := P) (ps := ps) (closure_ok hfree) I.ok.glob g0 hcode c0 o0 ht hc TB.gP b0 fun c' ctv h' tk hx hge hlt hrec htb => ?_
    obtain ⟨d, oc, vs, t, e, x1, x2, x3⟩ := hrec
    cases e
    have n0 : H c' = none := I.hok.fresh hge
    have e2 : ExtP P H (upd (upd H P (.tbl (ps ++ #[rawInt pos.line, rawInt pos.col, .ref c']))) c' (CodeO c' (X.env.qual ++ "<lambda>"))) := fun b o nb e => by
      rw [upd_ne (ne_of_none e n0), upd_ne nb]
      exact e
    have l2 : (ps ++ #[rawInt pos.line, rawInt pos.col, .ref c']).toList = ps.toList ++ [rawInt pos.line, rawInt pos.col, .ref c'] := by simp
    refine h _ c' _ ctv _ _ (inv_table (t' := tk) I hP (fun b o hb e => Heap.get?_push_of_some _ (hx b o hb e)) (Heap.get?_push_of_some _ htb) hge ⟨oc, vs, t, Heap.get?_push_of_some _ x1, x2, x3⟩) e2 ?_ (Heap.get?_push_size _ rfl) upd_same
    refine ⟨_, by rw [upd_ne (ne_of_none hP n0), upd_same], by rw [l2]; exact PySem.TriplesOk_snoc _ _ _ _ ht, fun p' cv hcv => ?_⟩
    rw [l2] at hcv
    rcases among_app _ ht hcv with z | z
    · obtain ⟨d, e3, e4⟩ := ha p' cv z
      refine ⟨d, e3, e2 _ _ (fun y => ?_) e4⟩
      rw [y, hP] at e4
      exact codeO_ne ps (Option.some.inj e4).symm
    · exact ⟨c', z, upd_same⟩
theorem rd_extP {P : Addr} {q : Str} {H H' : Hp} {a : Addr} {o : HO} (e : ExtP P H H') (t : TabS H P q) (ho : ∀ ps, o ≠ .tbl ps) (h : Rd H a o) : Rd H' a o := by
  obtain ⟨ps, hP, _⟩ := t
  rcases h with h | ⟨u, h⟩
  · refine .inl (e _ _ (fun z => ?_) h)
    rw [z, hP] at h
    exact ho ps (Option.some.inj h).symm
  · refine .inr ⟨u, e _ _ (fun z => ?_) h⟩
    rw [z, hP] at h
    cases h
theorem sqL_extP {K : Frag} {P : Addr} {q : Str} {H H' : Hp} {a : Addr} {xs : List V} (e : ExtP P H H') (t : TabS H P q) (h : SqL K H a xs) : SqL K H' a xs := h.imp (rd_extP e t fun ps z => by cases z) id
theorem sqT_extP {K : Frag} {P : Addr} {q : Str} {H H' : Hp} {a : Addr} {xs : List V} (e : ExtP P H H') (t : TabS H P q) (h : SqT K H a xs) : SqT K H' a xs := h.imp (rd_extP e t fun ps z => by cases z) id
def srtV (bs : List (V × List Int)) : List (V × List Int) := bs.mergeSort (dataLe false fun b => lenKey b.2)
def tSortK (K : Frag) (P : Addr) (q : Str) (te : TE) : TE := fun σ H Q => te σ H fun v H1 => ∃ (a : Addr) (bs : List (V × List Int)), v = .ref a ∧ SqL K H1 a (bs.map (·.1)) ∧ (∀ b ∈ bs, (∃ t, b.1 = .ref t ∧ SqT K H1 t (b.2.map V.int)) ∧ b.2.length ≤ 100000) ∧ bs.length ≤ 100000 ∧
  TabS H1 P q ∧ ∀ H2 p, ExtP P H1 H2 → TabS H2 P q → H2 p = none → Q (.ref p) (upd H2 p (.lst ((srtV bs).map (·.1))))
def IsLot (h : Heap) (v : Value) (b : V × List Int) : Prop := RelV b.1 v ∧ ∃ (t : Addr) (its : List Value), v = .ref t ∧ IsTup h t its.toArray ∧ IntsAre its b.2
theorem lots_each {X : Cx} {pins : List (Addr × Obj)} {σ : L2.St} {H : Hp} {s : Shared} (I : Inv X pins σ H s) : ∀ {bs : List (V × List Int)} {its : List Value}, Vals (bs.map (·.1)) its → (∀ b ∈ bs, ∃ t, b.1 = .ref t ∧ SqT X.K H t (b.2.map V.int)) → EachIs (IsLot s.heap) its bs
  | [], _, .nil, _ => .nil
  | b :: bs, _, .cons (b := u) r rs, h => by
    obtain ⟨t, e, ht⟩ := h b List.mem_cons_self
    obtain ⟨its, r', p, _⟩ := I.tuple ht
    have r0 : RelV b.1 u := r
    have r : RelV b.1 u := r
    rw [e] at r
    obtain rfl : u = Value.ref t := r
    exact .cons ⟨r0, t, its, rfl, p, r'.ints⟩ (lots_each I rs fun b hb => h b (List.mem_cons_of_mem _ hb))
theorem each_vals {h : Heap} {bs : List (V × List Int)} {out : List Value} (e : EachIs (IsLot h) out bs) : Vals (bs.map (·.1)) out := by
  induction e with
  | nil => exact .nil
  | cons r _ ih => exact .cons r.1 ih
theorem lenKey_depth (l : List Int) : (lenKey l).depth ≤ 2 := by
  have h : ∀ l : List Int, PyData.depthAll (l.map PyData.int) = 0 := by
    intro l
    induction l with
    | nil => simp [PyData.depthAll]
    | cons x l ih => simp [PyData.depthAll, PyData.depth, ih]
  simp [lenKey, PyData.depth, PyData.depthAll, h]
theorem alike_ints : ∀ xs ys : List Int, alikeAll (xs.map PyData.int) (ys.map PyData.int) = true
  | [], [] => by simp [alikeAll]
  | [], _ :: _ => by simp [alikeAll]
  | _ :: _, [] => by simp [alikeAll]
  | x :: xs, y :: ys => by simp [alikeAll, alike, alike_ints xs ys]
theorem pe_sortKey {X : Cx} {k : Nat} {c P : Addr} {e : Expr} {te : TE} {params : Arguments} {scope : Scope} {n : Nat} {kp p p1 p2 p3 p4 p5 lpos pos : Pos} (h : PE X e te) (hg : Gl X "sorted") (hm : X.mg "sorted" = none) (hr : Room k X.A)
    (TB : TabB X.base X.mg c P) (hcode : X.env.code = .ref c) (hdef : defaultsOf params X.env = ([], [])) (hfree : ∀ y ∈ scope.names, y.2 ≠ .free) (hcl : cloFrom X.env.cells scope.names [] = [])
    (hk : scope.kind = .function) (hco : scope.isCoroutine = false) (hgen : scope.isGenerator = false) (hcell : ∀ x ∈ scope.names, x.2 ≠ .cell) (hn : scope.names.lookup ("lot" : Str) = some NameKind.local) (hl : scope.names.lookup ("len" : Str) = some NameKind.globalImplicit) (hlen : X.mg "len" = none)
    (hbind : ∀ (q : Str) (pm cv ctv : Value) (a : Addr), bindArgs (kla_fn "<lambda>" q params (.Tuple [.Call (.Name "len" p1) [.Name "lot" p2] [] p3, .Name "lot" p4] n p5) scope [] pm cv ctv) ⟨[.ref a], []⟩ = pure [(("lot" : Str), Value.ref a)])
    (he : backTo pos (starEach [e] X.env) = (false, eval e X.env) :: backTo pos (starEach [] X.env) := by rfl) :
    PE X (.Call (.Name "sorted" p) [e] [⟨some "key", .Lambda params (.Tuple [.Call (.Name "len" p1) [.Name "lot" p2] [] p3, .Name "lot" p4] n p5) scope lpos, kp⟩] pos) (tSortK X.K P (X.env.qual ++ "<lambda>") te) := by
  refine ⟨fun pins s σ H Q I hT => ?_⟩
  refine wpAny_Call_Name_kw (ld_blt I hg hm rfl ?_)
  refine PyProof.Rows.callWith_kw ?_ he (by rw [he] <;> rfl) rfl rfl
  rw [he]
  refine spliced_cons (thn (h.run pins s σ H _ I hT) fun u s1 ⟨v, H1, I1, r1, q1⟩ => spliced_nil ?_)
  obtain ⟨a, bs, rfl, hA, hB, hz, tS, q⟩ := q1
  obtain rfl : u = Value.ref a := r1
  show wpAny _ _ (evalAll [do let v ← eval (.Lambda params _ scope lpos) X.env; standAt pos; pure v]) _ _ s1
  refine wpAny_evalAll_cons (wpAny_bind (lam_made I1 TB hcode tS hdef (fun y hy z => absurd z (hfree y hy)) fun f c' pm ctv H2 s2 I2 eN tS2 hf hco2 => ?_))
  refine wpAny_bind (wpAny_standAt (wpAny_pure (wpAny_evalAll_nil ?_)))
  rw [hcl] at hf
  have hA2 := sqL_extP eN tS hA
  have hB2 : ∀ b ∈ bs, ∃ t, b.1 = .ref t ∧ SqT X.K H2 t (b.2.map V.int) := fun b hb => let ⟨t, e, ht⟩ := (hB b hb).1; ⟨t, e, sqT_extP eN tS ht⟩
  obtain ⟨its, rv, pl, _⟩ := I2.list hA2
  obtain ⟨⟨oc, vs, tq, hoc, hdc, hvc⟩, _, _⟩ := I2.hok c' _ hco2
  obtain ⟨mb, b1, b2⟩ := I2.mod.blt
  have ea := lots_each I2 rv hB2
  show wpAny _ _ (call (.builtin "sorted") [.ref a] [(Str.ofString "key", .ref f)]) _ _ s2
  refine sorted_key_data (b := false) (fun b : V × List Int => lenKey b.2) pl.isList ea ?_ ?_ ?_ ?_ (PyProof.Rows.ksk_s1 _ _) (fun _ => PyProof.Rows.ksk_l1 _ _) (fun _ => PyProof.Rows.ksk_t1 _ _) (fun v b ⟨r0, t, its2, e, ht, hi⟩ hb h tk kp => ?_) fun out c2 h' tk kp _ hD hlo eo => ?_
  · exact AllAlike.of fun _ _ => by simp [alike, alikeAll, lenKey, alike_ints]
  · exact Sortable.tuples fun _ => ⟨_, _, rfl⟩
  · rw [sizeLine_eq]; omega
  · intro b _
    have h1 := hr.un
    have h2 := lenKey_depth b.2
    omega
  · subst e
    refine key_call (mg := X.mg) (mb := mb) ?_ (kp _ _ hf) hk hco hgen hcell hn hl (hbind _ _ _ _ _) ⟨c', oc, vs, tq, rfl, kp _ _ hoc, hdc, hvc⟩ (I2.nolimit.keeps kp) ((I2.mod.glob.keeps I2.bk).keeps kp) hlen ((b1.keeps I2.bk).keeps kp) ((b2 "len" (by decide)).trans rfl) ?_ hi (hB b hb).2
    · exact hr.depth
    · obtain ⟨o, e, r⟩ := ht
      exact ⟨o, kp _ _ e, r⟩
  · have rv2 := each_vals eo
    have hlen2 : ((srtV bs).map (·.1)).length ≤ sizeLine := by
      rw [List.length_map, srtV, List.length_mergeSort, sizeLine_eq]; omega
    exact ⟨.ref _, upd H2 (s2.heap.objs.size + 1) (.lst ((srtV bs).map (·.1))), I2.laid kp (Nat.le_succ _) ⟨hlen2, out, c2, rv2, hD⟩, rfl, q _ _ eN tS2 (I2.hok.fresh (Nat.le_succ _))⟩
def eLot (l : List Int) : PyData := .tuple (l.map PyData.int)
def srtL (ls : List (List Int)) : List (List Int) := ls.mergeSort (dataLe false lenKey)
structure TbAt (P : Addr) (q : Str) : Prop where
  tb : Tb.tb P
  only : ∀ b, Tb.tb b → b = P
  ok : ∀ H b, Tb.tb b → (Tb.ok H b ↔ TabS H b q)
theorem srtV_map (bs : List (V × List Int)) : (srtV bs).map (·.2) = srtL (bs.map (·.2)) := by
  unfold srtV srtL
  rw [List.map_mergeSort]
  intro a _ b _
  rfl
theorem rpa_zip {K : Frag} {G : Hp} : ∀ {xs : List V} {ls : List (List Int)}, RpA K G xs (ls.map eLot) → (xs.zip ls).map (·.1) = xs ∧ (xs.zip ls).map (·.2) = ls ∧ ∀ b ∈ xs.zip ls, Rp K G b.1 (eLot b.2)
  | [], [], _ => ⟨rfl, rfl, fun b h => by cases h⟩
  | [], l :: ls, h => by cases h
  | x :: xs, [], h => by cases h
  | x :: xs, l :: ls, h => by
    cases h with
    | cons r rs =>
      obtain ⟨h1, h2, h3⟩ := rpa_zip (xs := xs) (ls := ls) rs
      refine ⟨by rw [List.zip_cons_cons, List.map_cons, h1], by rw [List.zip_cons_cons, List.map_cons, h2], fun b hb => ?_⟩
      rw [List.zip_cons_cons] at hb
      rcases List.mem_cons.mp hb with rfl | hb
      · exact r
      · exact h3 b hb
theorem rpa_of {K : Frag} {G : Hp} : ∀ {bs : List (V × List Int)}, (∀ b ∈ bs, Rp K G b.1 (eLot b.2)) → RpA K G (bs.map (·.1)) ((bs.map (·.2)).map eLot)
  | [], _ => .nil
  | b :: bs, h => .cons (h b List.mem_cons_self) (rpa_of fun c hc => h c (List.mem_cons_of_mem _ hc))
theorem el_sortK {K : Frag} {B : Base} {δ : En} {te : TE} {P : Addr} {q : Str} {ls : List (List Int)} (T : TbAt P q) (h : ED K B te δ (· = .list (ls.map eLot))) (hn : ls.length ≤ 100000) (hl : ∀ l ∈ ls, l.length ≤ 100000) : EL K B (tSortK K P q te) δ (· = (srtL ls).map eLot) := fun G H σ E Q k =>
  h G H σ E _ fun v d G1 H1 pd m rd => by
    subst pd
    have I1 := E.iv.at m
    obtain ⟨a, xs, rfl, ha, ra⟩ := rd.l
    obtain ⟨z1, z2, z3⟩ := rpa_zip ra
    have gP : G1 P = none := (I1.dr P (.inr T.tb)).1
    have tP : TabS H1 P q := (T.ok H1 P T.tb).mp ((I1.dr P (.inr T.tb)).2.t T.tb)
    have xl : xs.length = ls.length := by rw [ra.length, List.length_map]
    refine ⟨a, xs.zip ls, rfl, by rw [z1]; exact sq_of (I1.gh _ _ ha), fun b hb => ?_, by rw [List.length_zip, xl, Nat.min_self]; exact hn, tP, fun H2 p e2 t2 hp => ?_⟩
    · have hb2 : b.2 ∈ ls := (List.of_mem_zip (show (b.1, b.2) ∈ xs.zip ls from hb)).2
      obtain ⟨t, ys, e1, ht, ry⟩ := (z3 b hb).t
      refine ⟨⟨t, e1, ?_⟩, hl _ hb2⟩
      rw [RpA.ints ry] at ht
      exact ex_t I1.gh ht
    · have nP : ∀ b o, G1 b = some o → b ≠ P := fun b o e z => by rw [z, gP] at e; cases e
      have pP : p ≠ P := fun z => by
        obtain ⟨_, e, _⟩ := t2
        rw [← z, hp] at e
        cases e
      have hp1 : H1 p = none := by
        cases e : H1 p with
        | none => rfl
        | some o => rw [e2 p o pP e] at hp; cases hp
      have g1 : Gm B G1 H1 G1 (upd H2 p (.lst ((srtV (xs.zip ls)).map (·.1)))) := by
        refine ⟨Ex.refl G1, fun b o e => ?_, fun b o e mu => ?_, fun b _ z => z, fun b mu w => ⟨mu, fun dm => ?_, fun tb => ?_⟩⟩
        · rw [upd_ne (ne_of_none (e2 b o (nP b o e) (I1.gh b o e)) hp)]
          exact e2 b o (nP b o e) (I1.gh b o e)
        · have nb : b ≠ P := fun z => mu (by rw [z]; exact .inr T.tb)
          rw [upd_ne (ne_of_none (e2 b o nb e) hp)]
          exact e2 b o nb e
        · obtain ⟨n, ns, e, r⟩ := w.d dm
          have nb : b ≠ P := fun z => by
            obtain ⟨ps, e3, _⟩ := tP
            rw [z, e3] at e
            cases e
          exact ⟨n, ns, by rw [upd_ne (ne_of_none (e2 b _ nb e) hp)]; exact e2 b _ nb e, r⟩
        · have hb := T.only b tb
          subst hb
          exact Tb.keep (fun c o e _ => by rw [upd_ne (ne_of_none e hp)]; exact e) ((T.ok H2 b tb).mpr t2)
      refine k p _ _ G1 _ rfl (m.trans g1 E.iv) (back E.iv m hp1) (g_none I1 hp1) upd_same ?_
      have w : ∀ b ∈ srtV (xs.zip ls), Rp K G1 b.1 (eLot b.2) := fun b hb => z3 b (List.mem_mergeSort.mp hb)
      have e := rpa_of w
      rw [srtV_map, z2] at e
      exact e
end DL
namespace DL
variable [Tb]
open PySem PySem.Spec PyProof.Rows L2 Evl
structure CalXd (P : Program) (w : World) (K : PySem.W.Frag) (mg : Str → Option Value) (base : Heap) (x : Str) (k : Nat) (ps : List Str) (dvs : List V) (sp : Sp) : Prop where
  ex : ∃ f fd ds, mg x = some (.ref f) ∧ PySem.W.keepIn K (.ref f) = true ∧ Binds K fd ps ds ∧ Vals dvs ds ∧ FnOk P w K mg base (L2.CX P w) k f fd ps sp
section
variable {X : Cx} {x f : Str} {C : Addr} {e : Expr} {es : List Expr} {ta : TA} {j k : Nat} {p pos : Pos} {E : XK} {ps : List Str} {dvs : List V} {sp : Sp}
theorem pe_calED (C : CalXd X.prog X.w X.K X.mg X.base x k ps dvs sp) (hr : Room j X.A) (hj : k ≤ j) (hg : Gl X x) (ps0 : Passes (L2.CX X.prog X.w) X E)
    (ha : PA X (e :: es) ta) (hdb : (x == ("__debug__" : Str)) = false := by decide) (he : starEach (e :: es) X.env = (false, eval e X.env) :: starEach es X.env := by rfl) (hpl : (backTo pos (starEach es X.env)).any (·.1) = false := by rfl) : PE X (.Call (.Name x p) (e :: es) [] pos) (tCall sp dvs E ta) := by
  obtain ⟨f, fd, ds, h1, h2, h3, h5, h4⟩ := C.ex
  exact pe_call h4 (hr.mono hj) hg h1 h2 h3 h5 ps0 ha hdb he hpl
end
section
variable {K : PySem.W.Frag} {B : Base} {G H : Hp} {δ : En} {tA : TA} {n : Nat} {E : XK} {P : Pd} {R : XR} {ds dsd : List PyData} {dvs : List V}
theorem ed_cXd {W : WTX} (h : EA K B tA δ (· = ds)) (hd : ∀ G, RpA K G dvs dsd) (w : W (ds ++ dsd) P R) (hE : EOk K B E R) (hl : (ds ++ dsd).length = n := by rfl) : ED K B (tCall (SpWX K n W) dvs E tA) δ P := fun G H σ Ev Q q => h G H σ Ev _ fun vs es G1 H1 pd m r => by
  subst pd
  have I1 := Ev.iv.at m
  exact ⟨G1, _, P, R, I1.i0, r.append (hd G1), hl, w, fun d po v G2 H2 J rd => q v d G2 H2 po (m.trans (I1.gmP J) Ev.iv) rd, fun C ds fs dd G2 H2 hr hf J hd => hE C ds fs dd G2 H2 hr hf (I1.at (I1.gmP J)) hd⟩
end
theorem funD_okC {P : Program} {w : World} {K : PySem.W.Frag} {mg : Str → Option Value} {base : Heap} {x qual : Str} {params : Arguments} {body : List Stmt} {scope : Scope} {dvs : List V} {kws : List (Str × V)} {f c : Addr} {fd : FuncData} {CX : CXT} {N ps : List Str} {k : Nat} {sp : Sp}
    (F : FunD K x qual params body scope dvs kws f fd) (hc : fd.code = .ref c) (S : FnScope N ps scope) (len : ∀ vs H Q E, sp vs H Q E → vs.length = ps.length)
    (hbody : ∀ (A : Around) (outer : List Env) (s : Shared) (H : Hp) (vs : List V) (Q : VK) (E : XK), Room k (A.deeper (envOfC qual scope s.heap.objs.size f (.ref c))) → sp vs H Q E →
      ∃ t, PSs (cxOf CX P w K mg base N qual scope f (.ref c) A outer s H E) body t ∧ t { nx := fun _ H' => Q .non H', rt := Q } (L2.start N vs) H) : FnOk P w K mg base CX (k + 1) f fd ps sp := by
  obtain ⟨oc, od, dV, kV, doc, pm, an, cdv, ct, osl, rfl, lk, hcd, _, _⟩ := F.ex
  obtain rfl : cdv = Value.ref c := hc
  exact fn_of lk hcd S len fun A outer s H vs Q E hr hsp => hbody A outer s H vs Q E hr hsp
end DL
namespace DL
variable [Tb]
open PySem PySem.Spec PyProof.Rows L2 Evl
section
variable {K : PySem.W.Frag} {B : Base} {G H : Hp} {δ : En} {te : TE}
end
end DL
namespace DL
variable [Tb]
open PySem PySem.Spec PyProof.Rows L2 Evl PySem.W
def leK (a b : List Int) : Bool := decide (a.length < b.length ∨ (a.length = b.length ∧ a ≤ b))
theorem eqv_ints : ∀ (b a : List Int), PyData.eqvAll (b.map PyData.int) (a.map PyData.int) = decide (b = a)
  | [], [] => by simp [PyData.eqvAll]
  | [], _ :: _ => by simp [PyData.eqvAll]
  | _ :: _, [] => by simp [PyData.eqvAll]
  | x :: b, y :: a => by
    rw [List.map_cons, List.map_cons, PyData.eqvAll, eqv_ints b a, PyData.eqv]
    by_cases h1 : x = y <;> by_cases h2 : b = a <;> simp [h1, h2]
theorem ite_b {c : Prop} [Decidable c] {x y z : Bool} (h : c → x = z) (k : ¬ c → y = z) : (if c then x else y) = z := by
  by_cases q : c
  · rw [if_pos q]; exact h q
  · rw [if_neg q]; exact k q
theorem ltK (a b : List Int) : dataLt (lenKey b) (lenKey a) = decide (b.length < a.length ∨ (b.length = a.length ∧ b < a)) := by
  unfold lenKey
  rw [dataLt_pair (by simp [alike]) (by rw [alike]; exact alike_ints b a), dataLt_int, dataLt_tuple]
  have r := dataLt_ints b a
  unfold rowLt at r
  rw [r]
  have e1 : PyData.eqv (.int (b.length : Int)) (.int (a.length : Int)) = true ↔ b.length = a.length := by
    simp only [PyData.eqv, beq_iff_eq]
    omega
  have e2 : PyData.eqv (.tuple (b.map PyData.int)) (.tuple (a.map PyData.int)) = true ↔ b = a := by
    rw [PyData.eqv, eqv_ints, decide_eq_true_iff]
  refine ite_b (fun q => ite_b (fun z => ?_) (fun z => ?_)) (fun q => ?_)
  · have z := e2.mp z
    subst z
    simp [List.lt_irrefl]
  · have q := e1.mp q
    simp [q]
  · have q : b.length ≠ a.length := fun z => q (e1.mpr z)
    rw [decide_eq_decide]
    omega
theorem leK_eq : dataLe false lenKey = leK := by
  funext a b
  show (!dataLt (lenKey b) (lenKey a)) = leK a b
  rw [ltK]
  unfold leK
  rw [Bool.eq_iff_iff]
  simp only [Bool.not_eq_true', decide_eq_false_iff_not, decide_eq_true_iff]
  constructor
  · intro h
    by_cases h1 : a.length < b.length
    · exact .inl h1
    · refine .inr ⟨by omega, List.not_lt.mp fun z => h (.inr ⟨by omega, z⟩)⟩
  · rintro (h | ⟨h1, h2⟩) (z | ⟨z1, z2⟩)
    · omega
    · omega
    · omega
    · exact List.not_lt.mpr h2 z2
theorem leK_trans (a b c : List Int) (h : leK a b = true) (k : leK b c = true) : leK a c = true := by
  unfold leK at *
  rw [decide_eq_true_iff] at *
  rcases h with h | ⟨h1, h2⟩ <;> rcases k with k | ⟨k1, k2⟩
  · exact .inl (by omega)
  · exact .inl (by omega)
  · exact .inl (by omega)
  · exact .inr ⟨by omega, List.le_trans h2 k2⟩
theorem leK_total (a b : List Int) : (leK a b || leK b a) = true := by
  unfold leK
  rw [Bool.or_eq_true, decide_eq_true_iff, decide_eq_true_iff]
  by_cases h1 : a.length < b.length
  · exact .inl (.inl h1)
  · by_cases h2 : b.length < a.length
    · exact .inr (.inl h2)
    · rcases List.le_total a b with h | h
      · exact .inl (.inr ⟨by omega, h⟩)
      · exact .inr (.inr ⟨by omega, h⟩)
theorem leK_anti {a b : List Int} (h : leK a b = true) (k : leK b a = true) : a = b := by
  unfold leK at *
  rw [decide_eq_true_iff] at *
  rcases h with h | ⟨h1, h2⟩ <;> rcases k with k | ⟨k1, k2⟩
  · omega
  · omega
  · omega
  · exact List.le_antisymm h2 k2
theorem srtL_eq (ls : List (List Int)) : srtL ls = ls.mergeSort leK := by
  unfold srtL
  rw [leK_eq]
theorem srtL_perm (ls : List (List Int)) : (srtL ls).Perm ls := by rw [srtL_eq]; exact List.mergeSort_perm _ _
theorem srtL_sorted (ls : List (List Int)) : (srtL ls).Pairwise (fun a b => leK a b = true) := by rw [srtL_eq]; exact List.pairwise_mergeSort leK_trans leK_total ls
theorem srtL_len (ls : List (List Int)) : (srtL ls).length = ls.length := (srtL_perm ls).length_eq
theorem mem_srtL {ls : List (List Int)} {x : List Int} : x ∈ srtL ls ↔ x ∈ ls := (srtL_perm ls).mem_iff
end DL
namespace DL
variable [Tb]
open PySem PySem.W PySem.Spec PySem.Calls PyProof.Rows L2 Evl
structure Prt where
  fa : List He.Fa
  fn : List He.DefD
  fo : List PathD
  ex : PySem.W.Frag → List Bool
def prtO (p : Prt) (K : PySem.W.Frag) : AlO := obsO p.fa p.fn p.fo p.ex K
def prtV (p : Prt) : AlO := valO p.fn p.fo
abbrev SaysP (p : Prt) (K : PySem.W.Frag) : Prop := SaysO p.fa p.fn p.fo p.ex K
def hookP (as : List Addr) (ps : List Prt) : PySem.W.Hook where
  α := List AlO
  obs s := ps.map fun p => prtO p (He.frG s.heap.get? as)
  val _ := ps.map prtV
  says _ h := ∃ K : PySem.W.Frag, K.In h ∧ ∀ p ∈ ps, SaysP p K
  of _ _ e := ⟨_, He.frG_in, fun p hp => by
    obtain ⟨i, hi⟩ := List.mem_iff_getElem?.mp hp
    have q := congrArg (fun l => l[i]?) e
    simp only [List.getElem?_map, hi, Option.map_some, Option.some.injEq] at q
    exact q⟩
  keeps _ _ _ p k := p.elim fun K q => ⟨K, PySem.W.Frag.In.keeps q.1 k, q.2⟩
def obP (as : List Addr) (ps : List Prt) (s : SharedT) : List AlO := ps.map fun p => prtO p (He.frG (HandSHeadRun.getT s) as)
noncomputable def endR (r : OpenRow) (M : Nat) (w : World) (os : OsState) : Option SharedT := HandSHeadRun.endF (HandSHeadRun.stepQ (HandSHeadRun.denQ HandSHeadRun.tabQ) r.prog w) M r.prog w os
theorem two {σ α β : Type} {X : Option σ} {f : σ → α} {g : σ → β} {a : α} {b : β} (h : X.map f = some a) (k : X.map g = some b) : X.map (fun s => (f s, g s)) = some (a, b) := by
  cases X with
  | none => cases h
  | some s => cases h; cases k; rfl
theorem both_ {σ : Type} {X : Option σ} {f g : σ → Bool} (h : X.map f = some true) (k : X.map g = some true) : X.map (fun s => f s && g s) = some true := by
  cases X with
  | none => cases h
  | some s =>
    have h := Option.some.inj h
    have k := Option.some.inj k
    show some (f s && g s) = some true
    rw [h, k]
    rfl
theorem parts_nil {as : List Addr} {X : Option SharedT} {σ : Type} {f : SharedT → σ} {a : σ} (h : X.map f = some a) : X.map (obP as []) = some ([].map prtV) := by
  cases X with
  | none => cases h
  | some s => rfl
theorem parts_cons {as : List Addr} {X : Option SharedT} {p : Prt} {ps : List Prt} (h : X.map (fun s => prtO p (He.frG (HandSHeadRun.getT s) as)) = some (prtV p)) (k : X.map (obP as ps) = some (ps.map prtV)) : X.map (obP as (p :: ps)) = some ((p :: ps).map prtV) := by
  cases X with
  | none => cases h
  | some s =>
    have h : prtO p (He.frG (HandSHeadRun.getT s) as) = prtV p := Option.some.inj h
    have k : obP as ps s = ps.map prtV := Option.some.inj k
    show some (prtO p (He.frG (HandSHeadRun.getT s) as) :: obP as ps s) = some (prtV p :: ps.map prtV)
    rw [h, k]
end DL
namespace DL
open PySem PySem.W PySem.Spec PySem.Calls PyProof.Rows L2 Evl
@[reducible] def tbOf (P : Addr) (q : Str) : Tb where
  tb := (· = P)
  ok H b := LamX.TabS H b q
  nn h := by
    obtain ⟨ps, e, _⟩ := h
    exact fun z => by rw [e] at z; cases z
  keep := fun {H H' a} k h => by
    obtain ⟨ps, e, t, r⟩ := h
    refine ⟨ps, k _ _ e (.inl ⟨_, rfl⟩), t, fun pos cv hc => ?_⟩
    obtain ⟨c, e1, e2⟩ := r pos cv hc
    exact ⟨c, e1, k _ _ e2 (.inr ⟨_, rfl⟩)⟩
  nol := fun {H a o} h e => by
    obtain ⟨ps, e2, _⟩ := h
    rw [e2] at e
    exact ⟨ps, (Option.some.inj e).symm⟩
def codeAd (K : Frag) (x : Str) : Addr := match K.lookup (He.ga K x) with
  | some ⟨_, _, .func fd, _⟩ => (match fd.code with
    | .ref c => c
    | _ => 0)
  | _ => 0
def codeRefB (K : Frag) (x : Str) : Bool := match K.lookup (He.ga K x) with
  | some ⟨_, _, .func fd, _⟩ => (match fd.code with
    | .ref _ => true
    | _ => false)
  | _ => false
theorem codeAd_ok {K : Frag} {x : Str} {oc : Value} {od : Option Addr} {fd : FuncData} {osl : Array (Option Value)} (e : K.lookup (He.ga K x) = some ⟨oc, od, .func fd, osl⟩) (b : codeRefB K x = true) : fd.code = .ref (codeAd K x) := by
  unfold codeRefB at b
  unfold codeAd
  rw [e] at b ⊢
  have b : (match fd.code with | .ref _ => true | _ => false) = true := b
  show fd.code = .ref (match fd.code with | .ref c => c | _ => 0)
  revert b
  cases fd.code <;> intro b <;> first | rfl | cases b
theorem funD_code {K : Frag} {x qual : Str} {params : Arguments} {body : List Stmt} {scope : Scope} {dvs : List V} {kws : List (Str × V)} {fd : FuncData} (F : FunD K x qual params body scope dvs kws (He.ga K x) fd) (b : codeRefB K x = true) : fd.code = .ref (codeAd K x) := by
  obtain ⟨oc, od, dV, kV, doc, pm, an, cdv, ct, osl, rfl, lk, _⟩ := F.ex
  exact codeAd_ok lk b
theorem okWXC [Tb] {P : Program} {w : World} {K : PySem.W.Frag} {mg : Str → Option Value} {base : Heap} {x qual : Str} {st : Stmt} {f c : Addr} {fd : FuncData} {N ps : List Str} {k : Nat} {t : XK → TS} (F : FnP K x qual st f fd) (hc : fd.code = .ref c) (S : FnScope N ps (defScope st))
    (d : ∀ (A : Around) (outer : List Env) (s : Shared) (H : Hp) (E : XK), Room k (A.deeper (envOfC qual (defScope st) s.heap.objs.size f (.ref c))) → PSs (cxOf (L2.CX P w) P w K mg base N qual (defScope st) f (.ref c) A outer s H E) (defBody st) (t E))
    (hN : ps.length ≤ N.length) : FnOk P w K mg base (L2.CX P w) (k + 1) f fd ps (SpWX K ps.length (wX K t N)) :=
  funD_okC F hc S (fun vs H Q E ⟨G, ds, P, R, e, r, l, _⟩ => by rw [r.length, l]) fun A outer s H vs Q E hr h => ⟨t E, d A outer s H E hr, spWX_run h hN⟩
theorem okWX2 [Tb] {P : Program} {w : World} {K : PySem.W.Frag} {mg : Str → Option Value} {base : Heap} {x qual : Str} {st : Stmt} {f : Addr} {fd : FuncData} {N ps : List Str} {dvs : List V} {kws : List (Str × V)} {k : Nat} {t : XK → TS} (F : FunD K x qual (defArgs st) (defBody st) (defScope st) dvs kws f fd) (S : FnScope N ps (defScope st))
    (d : ∀ (cdv : Value) (A : Around) (outer : List Env) (s : Shared) (H : Hp) (E : XK), Room k (A.deeper (envOfC qual (defScope st) s.heap.objs.size f cdv)) → PSs (cxOf (L2.CX P w) P w K mg base N qual (defScope st) f cdv A outer s H E) (defBody st) (t E))
    (hN : ps.length ≤ N.length) : FnOk P w K mg base (L2.CX P w) (k + 1) f fd ps (SpWX K ps.length (wX K t N)) :=
  F.ok S (fun vs H Q E ⟨G, ds, P, R, e, r, l, _⟩ => by rw [r.length, l]) fun cdv A outer s H vs Q E hr h => ⟨t E, d cdv A outer s H E hr, spWX_run h hN⟩
def hookT [Tb] (as ts : List Addr) (ps : List Prt) : PySem.W.Hook where
  α := List AlO × List (Option Obj)
  obs s := (ps.map fun p => prtO p (He.frG s.heap.get? as), ts.map s.heap.get?)
  val _ := (ps.map prtV, ts.map fun _ => some (PySem.W.tabObj #[]))
  says _ h := (∃ K : PySem.W.Frag, K.In h ∧ ∀ p ∈ ps, SaysP p K) ∧ ∀ P ∈ ts, h.get? P = some (PySem.W.tabObj #[])
  of w s e := ⟨(hookP as ps).of w s (Prod.mk.inj e).1, List.map_inj_left.mp (Prod.mk.inj e).2⟩
  keeps w h h' p k := ⟨(hookP as ps).keeps w h h' p.1 k, fun P hP => k _ _ (p.2 P hP)⟩
def obT [Tb] (as ts : List Addr) (ps : List Prt) (s : SharedT) : List AlO × List (Option Obj) := (obP as ps s, ts.map (HandSHeadRun.getT s))
theorem obT_eq [Tb] (as ts : List Addr) (ps : List Prt) (s : SharedT) : obT as ts ps s = (hookT as ts ps).obs s.abs := by
  have e : HandSHeadRun.getT s = s.abs.heap.get? := funext (HandSHeadRun.getT_eq s)
  show (obP as ps s, ts.map (HandSHeadRun.getT s)) = (ps.map fun p => prtO p (He.frG s.abs.heap.get? as), ts.map s.abs.heap.get?)
  rw [← e]
  rfl
theorem run_partsT [Tb] {r : OpenRow} {q : Program} {as ts : List Addr} {ps : List Prt} {M : Nat} {loose : List Str} {w : World}
    (h1 : ∀ os, (endR r M w os).map (fun s => staticsOk (importedModules r.prog.main.body) (boot_heap w.params) s.abs.heap) = some true) (h2 : ∀ os, (endR r M w os).map (fun s => namesBound r.prog s.abs.heap) = some true)
    (h3 : ∀ os, (endR r M w os).map (fun s => gensDone s.abs) = some true) (h4 : ∀ os, (endR r M w os).map (fun s => laidKept (boot_heap w.params) s.abs.heap) = some true)
    (h5 : ∀ os, (endR r M w os).map (fun s => HandSHeadRun.seenQ q loose (importedModules r.prog.main.body) (fun s => xlAt q [] s && recOk r.toRowW.records s) s.abs) = some (openGood q loose))
    (h6 : ∀ os, (endR r M w os).map (obP as ps) = some (ps.map prtV)) (h7 : ∀ os, (endR r M w os).map (fun s => ts.map (HandSHeadRun.getT s)) = some (ts.map fun _ => some (PySem.W.tabObj #[]))) : HandSHeadRun.RunEq r q (hookT as ts ps) (obT as ts ps) M loose w := fun os =>
  two (both_ (both_ (both_ (h1 os) (h2 os)) (h3 os)) (h4 os)) (two (h5 os) (two (h6 os) (h7 os)))
end DL
namespace DL
open PySem PySem.W PySem.Spec PySem.Calls PyProof.Rows L2 Evl
section
variable [Tb] {P : Program} {w : World} {K : PySem.W.Frag} {mg mb : Str → Option Value} {base : Heap}
theorem callTG {k : Nat} {fa a c T : Addr} {fd : FuncData} {x : Str} {sp : Sp} {s : Shared} {vs : List Value} {ns : List Int} (KX : K.In s.heap) (gm : s.heap.Ns mainGlobals mg) (gb : s.heap.Ns builtinsNs mb) (bb : ∀ x : Str, x ≠ "__name__" → mb x = bootBuiltins x) (lim : s.heap.NoLimit) (gs : s.gens = #[])
    (tT : s.heap.get? T = some { cls := .none, data := .fields #[] }) (kT : K.lookup T = none) (cT : PySem.W.CodeHd s.heap c T) (bmn : ∃ (m : Addr) (o : Obj), mg "__builtins__" = some (.ref m) ∧ m ≠ builtinsNs ∧ s.heap.get? m = some o ∧ o.cls = .type "module" ∧ o.dict = some builtinsNs ∧ o.data = .plain)
    (ha : s.heap.get? a = some { cls := .type "list", data := .seq vs.toArray }) (hi : IntsAre vs ns) (hl : ns.length ≤ sizeLine) (hr : Room k callerA) (F : ∀ base : Heap, K.In base → base.Ns mainGlobals mg → LamX.TabB base mg c T → FnG P w K mg base k fa fd [x] sp) (hb : ∀ (s : Shared) (u : Value), BindsTo s fd ⟨[u], []⟩ [(x, u)])
    (hsp : ∀ H : Hp, H T = some (.tbl #[]) → SqL K H a (ns.map V.int) → sp [.ref a] H (fun v _ => v = .bl true) fun _ _ _ => False) : codeAny (model P w) callerA (.call (.ref fa) ⟨[.ref a], []⟩) (fun r s' => r = .ok (.ret (.bool true)) ∧ OldK s.heap s'.heap ∧ s'.os = s.os ∧ AllBare s'.gens) s := by
  have rv := vals_ints hi
  have aT : a ≠ T := fun z => by
    rw [z, tT] at ha
    cases ha
  have main : ∀ H : Hp, H T = some (.tbl #[]) → (∀ b u, H b = some u → b = a ∧ (∃ o xs, u = .frz o (.lst xs)) ∨ b = T) → SqL K H a (ns.map V.int) → HOk P w H s.heap → (H a ≠ none → K.lookup a = none) → codeAny (model P w) callerA (.call (.ref fa) ⟨[.ref a], []⟩) (fun r s' => r = .ok (.ret (.bool true)) ∧ OldK s.heap s'.heap ∧ s'.os = s.os ∧ AllBare s'.gens) s := by
    intro H hT on sq ok ka
    have away : ∀ {b : Addr} {o : Obj}, s.heap.get? b = some o → (∀ us n, o.data ≠ .seq us n) → o.data ≠ .fields #[] → H b = none := by
      intro b o e d1 d2
      match q : H b with
      | none => rfl
      | some u =>
        rcases on b u q with ⟨rfl, _⟩ | rfl
        · rw [ha] at e
          cases e
          exact absurd rfl (d1 _ _)
        · rw [tT] at e
          cases e
          exact absurd rfl d2
    have stay : ∀ {b : Addr} {o : Obj}, s.heap.get? b = some o → (∀ us n, o.data ≠ .seq us n) → o.data ≠ .fields #[] → (hidT s.heap H).get? b = some o := fun e d1 d2 => hidT_get e (away e d1 d2)
    have hN : ∀ {b : Addr} {m : Str → Option Value}, s.heap.Ns b m → (hidT s.heap H).Ns b m := fun ⟨o, es, n, e, d, r⟩ => ⟨o, es, n, stay e (fun _ _ z => by rw [d] at z; cases z) (fun z => by rw [d] at z; cases z), d, r⟩
    have hK : K.In (hidT s.heap H) := by
      intro b o e
      refine hidT_get (KX b o e) ?_
      match q : H b with
      | none => rfl
      | some u =>
        rcases on b u q with ⟨rfl, _⟩ | rfl
        · rw [ka (by rw [q]; simp)] at e
          cases e
        · rw [kT] at e
          cases e
    have md : Mod K mg (hidT s.heap H) := ⟨hK, hN gm, ⟨mb, hN gb, bb⟩, lim.elim fun mc z => ⟨mc, hN z.1, z.2⟩⟩
    have tb : LamX.TabB (hidT s.heap H) mg c T := by
      have ⟨m, o, m1, m2, m3, m4, m5, m6⟩ := bmn
      have mg_ : m ≠ mainGlobals := fun z => by
        have ⟨_, _, _, e, d, _⟩ := gm
        rw [← z, m3] at e
        cases e
        rw [m6] at d
        cases d
      have mT : m ≠ T := fun z => by
        rw [z, tT] at m3
        cases m3
        cases m6
      have gT : mainGlobals ≠ T := fun z => by
        have ⟨_, _, _, e, d, _⟩ := gm
        rw [z, tT] at e
        cases e
        cases d
      have ⟨co, us, p1, p2, p3, p4, p5, p6, p7, e, q1, q2, q3, q⟩ := cT
      have n1 : ∀ ws n, co.data ≠ .seq ws n := fun ws n z => by rw [z] at q2; cases q2
      have n2 : co.data ≠ .fields #[] := fun z => by
        rw [z] at q2
        cases q2
        simp at q3
      exact ⟨⟨co, us, p1, p2, p3, p4, p5, p6, p7, stay e n1 n2, q1, q2, q3, q⟩, ⟨m, o, m1, m2, mg_, mT, stay m3 (fun ws n z => by rw [m6] at z; cases z) (fun z => by rw [m6] at z; cases z), m4, m5, m6⟩, gT⟩
    have ev : Env0 P w K mg (hidT s.heap H) callerA [] s H := ⟨rfl, md, fun b o e => of_hidT e, Nat.le_of_eq (hidT_size _ _), trivial, fun b z => (nomatch (show b ∈ ([] : List Addr) from z)), ok, .of_eq gs⟩
    refine codeAny_mono (F _ hK (hN gm) tb callerA [] s H ⟨[.ref a], []⟩ [.ref a] [.ref a] _ _ rfl hr ev (hb s (.ref a)) (.cons rfl .nil) (hsp H hT sq)) ?_
    intro r s' h
    match r, h with
    | .error _, h => exact h.elim
    | .ok .next, h => exact h.elim
    | .ok .brk, h => exact h.elim
    | .ok .cont, h => exact h.elim
    | .ok (.ret u), ⟨v, H', os, bare, un, ok', ru, q⟩ =>
      cases (show v = .bl true from q)
      cases (show u = Value.bool true from ru)
      have grown : ∃ more : Array Value, s'.heap.get? T = some { cls := .none, data := .fields more } := by
        obtain ⟨more, z⟩ := un.tbls T #[] hT
        exact ⟨_, ok' T _ z⟩
      have kept : ∀ b o, b ≠ T → s.heap.get? b = some o → s'.heap.get? b = some o := fun b o nb e => by
        match q : H b with
        | none => exact un.keep b o e q (fun z => nomatch (show b ∈ ([] : List Addr) from z)) (by simp)
        | some u =>
          rcases on b u q with ⟨rfl, ob, xs, rfl⟩ | z
          · have z2 := ok' b _ (un.frzs b ob _ q)
            have e1 := (ok b _ q).1
            rw [e] at e1
            cases e1
            exact z2.1
          · exact absurd z nb
      refine ⟨rfl, ⟨fun b o e => ?_, fun b o e => ?_⟩, os, bare⟩
      · by_cases hb : b = T
        · subst hb
          obtain ⟨more, hm⟩ := grown
          rw [tT] at e
          cases e
          exact .inr (.inl ⟨(cT.tab tT).isCodeTable, rfl, #[], more, rfl, by rw [Array.empty_append]; exact hm⟩)
        · exact .inl (kept b o hb e)
      · by_cases hb : b = T
        · subst hb
          obtain ⟨more, hm⟩ := grown
          exact ⟨_, hm⟩
        · exact ⟨o, kept b o hb e⟩
  cases hk : K.lookup a with
  | some o =>
    have e := KX a o hk
    rw [ha] at e
    cases e
    refine main (upd (fun _ => none) T (.tbl #[])) upd_same (fun b u z => ?_) (.inr ⟨_, vs.toArray, _, hk, rfl, rfl, rfl, by rw [List.size_toArray, hi.length]; exact hl, by simpa using rv⟩) (fun b u z => ?_) (fun z => absurd (upd_ne aT) z)
    · by_cases e : b = T
      · exact .inr e
      · rw [upd_ne e] at z
        cases z
    · by_cases e : b = T
      · subst e
        rw [upd_same] at z
        cases z
        exact tT
      · rw [upd_ne e] at z
        cases z
  | none =>
    have at_ : ∀ {b : Addr} {u : HO}, upd (upd (fun _ => none) T (.tbl #[])) a (.frz { cls := .type "list", data := .seq vs.toArray } (.lst (ns.map V.int))) b = some u → (b = a ∧ u = .frz { cls := .type "list", data := .seq vs.toArray } (.lst (ns.map V.int))) ∨ (b = T ∧ u = .tbl #[]) := by
      intro b u z
      by_cases e : b = a
      · subst e
        rw [upd_same] at z
        exact .inl ⟨rfl, (Option.some.inj z).symm⟩
      · rw [upd_ne e] at z
        by_cases e2 : b = T
        · subst e2
          rw [upd_same] at z
          exact .inr ⟨rfl, (Option.some.inj z).symm⟩
        · rw [upd_ne e2] at z
          cases z
    refine main (upd (upd (fun _ => none) T (.tbl #[])) a (.frz { cls := .type "list", data := .seq vs.toArray } (.lst (ns.map V.int)))) ((upd_ne (Ne.symm aT)).trans upd_same) (fun b u z => ?_) (.inl (.inr ⟨_, upd_same⟩)) (fun b u z => ?_) fun _ => hk
    · rcases at_ z with ⟨rfl, rfl⟩ | ⟨rfl, rfl⟩
      · exact .inl ⟨rfl, _, _, rfl⟩
      · exact .inr rfl
    · rcases at_ z with ⟨rfl, rfl⟩ | ⟨rfl, rfl⟩
      · exact ⟨ha, by rw [List.length_map]; exact hl, vs, _, rv, ha⟩
      · exact tT
end
theorem walkTG [Tb] {l : PySem.W.OpenLaw} {n k : Nat} {q : Program} {loose : List Str} {XP : (Str → Option Value) → Heap → Prop} {YP : World → Heap → Prop} {d : DefRec} {x : Str} (hn : l.most = some n) (hz : n ≤ sizeLine) (hd : d.params.defaults = []) (hr : Room k callerA)
    (F : ∀ (w : World) (mg : Str → Option Value) (fa : Addr) (h : Heap), YP w h → h.Ns mainGlobals mg → mg d.name = some (.ref fa) → ∃ (K : PySem.W.Frag) (fd : FuncData) (sp : Sp) (c T : Addr), K.In h ∧ (∀ (s : Shared) (u : Value), BindsTo s fd ⟨[u], []⟩ [(x, u)]) ∧
      h.get? T = some { cls := .none, data := .fields #[] } ∧ K.lookup T = none ∧ PySem.W.CodeHd h c T ∧
      (∀ (H : Hp) (a : Addr) (ns : List Int), ns.length ≤ n → H T = some (.tbl #[]) → SqL K H a (ns.map V.int) → sp [.ref a] H (fun v _ => v = .bl true) fun _ _ _ => False) ∧ ∀ base : Heap, K.In base → base.Ns mainGlobals mg → LamX.TabB base mg c T → FnG l.prog w K mg base k fa fd [x] sp) : PySem.W.WalkO q loose XP YP l.row.toRowW d [] (fun f vs => PySem.call f vs) :=
  Att.attach_callB hn hd fun w s₀ s₁ mg mb fa o pm cd doc a vs ns G Y ho hdd hcd hmg hobj hints hlen hbits hg => by
    obtain ⟨K, fd, sp, c, T, KX, hb, h1, h2, h3, hsp, hF⟩ := F w mg fa _ Y G.T.g hmg
    exact callTG KX G.T.g G.T.b G.T.builtins G.T.nolimit hg h1 h2 h3 G.T.bmain hobj hints (Nat.le_trans hlen hz) hr hF hb fun H hT hS => hsp H a ns hlen hT hS
end DL
namespace DL
variable [Tb]
open PySem PySem.Spec PySem.Calls PyProof.Rows L2 Evl PySem.W
section
variable {K : Frag} {B : Base} {δ : En} {te : TE}
end
@[reducible] def tb0 : Tb where
  tb _ := False
  ok _ _ := False
  nn h := h.elim
  keep _ h := h
  nol h := h.elim
end DL
namespace DL
variable [Tb]
open PySem PySem.Spec PyProof.Rows L2 Evl
section
variable {K : PySem.W.Frag} {B : Base} {δ : En} {te : TE} {tA : TA} {t u : TS} {n : Nat} {N : List Str} {E : XK} {Pl : List PyData → Prop} {R : XR} {ds : List PyData} {tt : TT}
end
end DL
namespace DL
variable [Tb]
open PySem PySem.Spec PyProof.Rows L2 Evl
section
variable {K : PySem.W.Frag} {B : Base} {δ : En} {te : TE} {tt : TT}
theorem Gm.less {G G1 H G2 H2 : Hp} {l : Addr} (gl : G l = none) (he : Ex G G1) (hn : ∀ b, b ≠ l → G b = none → G1 b = none) (m : Gm B G1 H G2 H2) : Gm B G H (fun b => if b = l then none else G2 b) H2 where
  gg := fun b o e => by
    have hb : b ≠ l := fun z => by rw [z, gl] at e; cases e
    show (if b = l then none else G2 b) = some o
    rw [if_neg hb]
    exact m.gg b o (he b o e)
  gh := fun b o e => by
    have e : (if b = l then none else G2 b) = some o := e
    by_cases hb : b = l
    · rw [if_pos hb] at e; cases e
    · rw [if_neg hb] at e; exact m.gh b o e
  hh := m.hh
  hid := fun b n z => by
    show (if b = l then none else G2 b) = none
    by_cases hb : b = l
    · rw [if_pos hb]
    · rw [if_neg hb]; exact m.hid b n (hn b hb z)
  dr := m.dr
end
end DL
namespace DL
variable [Tb]
open PySem PySem.Spec PyProof.Rows L2 Evl
def excB (K : PySem.W.Frag) (D : Addr) : Bool := decide (PySem.W.findIn K (.ref D) "__getattribute__" = some (some (.builtin "BaseException.__getattribute__"))) && (decide (PySem.W.findIn K (.ref D) "__getattr__" = some none) && (decide (PySem.W.subIn K (.ref D) (.type "BaseException") = some true) && (PySem.W.hasDictIn K D &&
  (decide (PySem.W.findIn K (.ref D) "__class__" = some (some (.builtin "object.__class__"))) && (decide (PySem.W.specialIn K (.builtin "object.__class__") "__get__" = some (some (.builtin "getset_descriptor.__get__"))) && (decide (PySem.W.takesIn K (.builtin "object.__class__") = some true) && decide (PySem.W.mroIn K D (.type "object") = some true)))))))
theorem excB_ok {K : PySem.W.Frag} {D : Addr} (h : excB K D = true) : L2.ExcC K D := by
  unfold excB at h
  simp only [Bool.and_eq_true, decide_eq_true_eq] at h
  obtain ⟨h1, h2, h3, h4, h5, h6, h7, h8⟩ := h
  exact ⟨h1, h2, h3, h4, h5, h6, h7, h8⟩
def rIsEx (K : PySem.W.Frag) (a : Addr) (cls : Value) (d : Option Addr) : List V → Hp → VK → Prop := fun xs H Q => rIsEd K a cls d xs H Q ∨ ∃ D, cls = .ref D ∧ d = none ∧ L2.ExcC K D ∧ L2.rIsE K D a xs H Q
theorem call_isEx {X : Cx} {a : Addr} {oe : Obj} {cls : Value} {d : Option Addr} {pn : List (Addr × Obj)} (hz : Zc cls d oe) (hf : ∃ vs, oe.data = .fields vs) : CallR (X.suite a ((a, oe) :: pn)) (.builtin "isinstance") (rIsEx X.K a cls d) := by
  intro pins s σ H xs us Q I r h
  rcases h with h | ⟨D, rfl, rfl, C, h⟩
  · exact call_isEd hz hf pins s σ H xs us Q I r h
  · exact L2.call_isE C hz hf pins s σ H xs us Q I r h
def rIsEdT (K : PySem.W.Frag) (a : Addr) (cls : Value) (d : Option Addr) : List V → Hp → VK → Prop := fun xs H Q => ∃ (tp : Addr) (cs : List V) (us : List Value) (b : Bool) (D dd : Addr) (fs : List (Str × V)), cls = .ref D ∧ d = some dd ∧ H dd = some (.xd fs) ∧ L2.ExcC K D ∧ xs = [.ref a, .ref tp] ∧ H tp = some (.tup cs) ∧ Paired ClsV cs us ∧ PySem.W.kitAny K (.ref D) us = some b ∧ Q (.bl b) H
theorem call_isEdT {X : Cx} {a : Addr} {oe : Obj} {cls : Value} {d : Option Addr} {pn : List (Addr × Obj)} (hz : Zc cls d oe) (hf : ∃ vs, oe.data = .fields vs) : CallR (X.suite a ((a, oe) :: pn)) (.builtin "isinstance") (rIsEdT X.K a cls d) := by
  intro pins s σ H xs us Q I r h
  obtain ⟨tp, cs, ws, b, D, dd, fs, rfl, rfl, hdd, C, rfl, hT, k, e, q⟩ := h
  obtain ⟨u1, u2, rfl, r1, r2⟩ := vals2 r
  cases (show u1 = Value.ref a from r1)
  cases (show u2 = Value.ref tp from r2)
  obtain ⟨hget, _⟩ := I.pin (a, oe) (List.mem_append.mpr (.inl List.mem_cons_self))
  obtain ⟨vs, hv⟩ := hf
  have hx : ObjOk X.prog X.w H s.heap dd (.xd fs) := I.hok dd _ hdd
  obtain ⟨mA, hns, hr⟩ := hx
  obtain ⟨od, ho, hl⟩ := lookIn_ns hns
  have J : PySem.W.InstAt s.heap a oe D (some od) := ⟨hget, hz.1, by unfold PySem.W.notCls; rw [hv] <;> rfl, by rw [hz.2]; exact ho⟩
  obtain ⟨_, its, rv, o, h1, h2, n, h3⟩ := (show ObjOk X.prog X.w H s.heap tp (.tup cs) from I.hok tp _ hT)
  have e3 := ClsV.all k rv
  subst e3
  obtain ⟨oc, oda, dt, sl⟩ := o
  simp only at h2 h3
  subst h2 h3
  exact PySem.W.kia_tup (dkitx C) I.kIn J h1 e (fun z => nomatch z) fun tk => ⟨.bl b, H, I.tok tk, rfl, q⟩
end DL
namespace DL
variable [Tb]
open PySem PySem.Spec PyProof.Rows L2 Evl
structure CalG (P : Program) (w : World) (K : PySem.W.Frag) (mg : Str → Option Value) (base : Heap) (x : Str) (k : Nat) (ps : List Str) (sp : Sp) : Prop where
  ex : ∃ f fd, mg x = some (.ref f) ∧ PySem.W.keepIn K (.ref f) = true ∧ Binds K fd ps [] ∧ (∀ vs H Q E, sp vs H Q E → vs.length = ps.length) ∧ FnG P w K mg base k f fd ps sp
theorem pe_calG {X : Cx} {x : Str} {k j : Nat} {ps : List Str} {sp : Sp} {p pos : Pos} {e : Expr} {es : List Expr} {t : TA} (C : CalG X.prog X.w X.K X.mg X.base x k ps sp) (hG : X.A.guards = some []) (hr : Room j X.A) (hj : k ≤ j) (hg : Gl X x)
    (ha : PA X (e :: es) t) (hdb : (x == ("__debug__" : Str)) = false := by decide) (he : starEach (e :: es) X.env = (false, eval e X.env) :: starEach es X.env := by rfl) (hpl : (backTo pos (starEach es X.env)).any (·.1) = false := by rfl) :
    PE X (.Call (.Name x p) (e :: es) [] pos) (tCall sp [] E0 t) := by
  obtain ⟨f, fd, h1, h2, h3, h4, h5⟩ := C.ex
  refine ⟨fun pins s σ H Q I h => ?_⟩
  refine wpAny_Call_Name_kw (ld_glob I hg h1 ?_ hdb)
  refine PySem.W.callWith_K (h₀ := X.base) I.ok.mod.kin h2 (thn (ha.run pos pins s σ H _ I h) fun us s1 ⟨vs, H1, I1, r, q⟩ => ⟨I1.kIn, ?_⟩) he hpl
  have q : sp (vs ++ []) H1 Q E0 := q
  rw [List.append_nil] at q
  have hl : (us ++ []).length = ps.length := by rw [List.append_nil, ← r.length]; exact h4 _ _ _ _ q
  have hb := h3 s1 us I1.kIn hl
  rw [List.append_nil] at hb
  refine wpAny_call (codeAny_mono (h5 X.A X.stack s1 H1 ⟨us, []⟩ us vs Q E0 hG (hr.mono hj) I1.env0 hb r q) fun r s' hq => ?_)
  cases r with
  | error e => exact pass0 pins σ H1 s1 e s' I1 hq
  | ok fl =>
    cases fl with
    | ret u => exact I1.after hq
    | next => exact False.elim hq
    | brk => exact False.elim hq
    | cont => exact False.elim hq
def rIsBl : R2 := fun x y H Q => ∃ a b, x = .bl a ∧ y = .bl b ∧ Q (.bl (decide (a = b))) H
theorem op_isLit {X : Cx} : OpR X (compareOp .Is) rIsBl := by
  intro pins s σ H x y v u Q I rx ry h
  obtain ⟨a, b, rfl, rfl, q⟩ := h
  cases (show v = Value.bool a from rx)
  cases (show u = Value.bool b from ry)
  exact wpAny_is_plain rfl (fin_bl I q (by cases a <;> cases b <;> rfl))
theorem rd_isBl {K : PySem.W.Frag} {a b : Bool} : RD K rIsBl (.bool a) (.bool b) (· = .bool (decide (a = b))) := fun B G H x y I rx ry Q q => by
  cases rx
  cases ry
  exact ⟨a, b, rfl, rfl, q _ _ G H rfl (Gm.refl I.gh) (.bl _)⟩
section
variable {P : Program} {w : World} {K : PySem.W.Frag} {mg : Str → Option Value} {base : Heap} {x qual : Str} {st : Stmt} {f : Addr} {fd : FuncData} {N ps : List Str} {k : Nat}
theorem okWDG {t : TS} {n : Nat} (F : FnP K x qual st f fd) (S : FnScope N ps (defScope st))
    (d : ∀ (cdv : Value) (A : Around) (outer : List Env) (s : Shared) (H : Hp) (E : XK), (A.deeper (envOfC qual (defScope st) s.heap.objs.size f cdv)).guards = some [] → Room k (A.deeper (envOfC qual (defScope st) s.heap.objs.size f cdv)) → PSs (cxOf CX0 P w K mg base N qual (defScope st) f cdv A outer s H E).nox (defBody st) t)
    (hn : n + 1 = ps.length) (hN : ps.length ≤ N.length) : (∀ vs H Q E, SpWD K n (wD K t N) vs H Q E → vs.length = ps.length) ∧ FnG P w K mg base (k + 1) f fd ps (SpWD K n (wD K t N)) := by
  have hl : ∀ vs H Q E, SpWD K n (wD K t N) vs H Q E → vs.length = ps.length := fun vs H Q E ⟨G, a, ws, ds, P, e, _, _, _, r, l, _⟩ => by rw [e, List.length_cons, r.length, l, hn]
  exact ⟨hl, fnG F S hl fun cdv A outer s H vs Q E hG hr h => ⟨t, d cdv A outer s H E hG hr, spWD_run h (by omega)⟩⟩
end
def intB : PyData → Bool
  | .int _ => true
  | _ => false
def dctB : List (PyData × PyData) → Bool
  | [(a, b)] => intB a && intB b
  | _ => false
mutual
def noI : PyData → Bool
  | .dict kvs => dctB kvs
  | .list xs => noIA xs
  | .tuple xs => noIA xs
  | _ => true
def noIA : List PyData → Bool
  | [] => true
  | x :: xs => noI x && noIA xs
end
theorem noI_l {xs : List PyData} : noI (.list xs) = noIA xs := by rw [noI]
theorem noI_t {xs : List PyData} : noI (.tuple xs) = noIA xs := by rw [noI]
theorem noIA_c {x : PyData} {xs : List PyData} : noIA (x :: xs) = (noI x && noIA xs) := by rw [noIA]
theorem noI_ins {i : Int} {xs ys : List PyData} : noI (.dict [(.int i, .tuple xs), (.none, .tuple ys)]) = false := by rw [noI]; rfl
theorem reads_dct {X : Cx} {pins : List (Addr × Obj)} {σ : L2.St} {H : Hp} {s : Shared} (I : L2.Inv X pins σ H s) {a : Addr} {i j : Int} (h : H a = some (.dK [(.inl i, .int j)])) : Reads s.heap (.ref a) (.dict [(.int i, .int j)]) [a] ∧ a ≠ sysModules := by
  have z := I.hok a _ h
  unfold L2.ObjOk at z
  obtain ⟨_, low, vs, kv, o, es, ep, hg, hx, hd, _, hp, _⟩ := z
  refine ⟨?_, fun e => by rw [e] at low; exact absurd low (by decide)⟩
  have kv1 : ∃ qv, vs = [(.inl i, qv)] ∧ RelV (.int j) qv := by
    match vs, kv with
    | [(qk, qv)], .cons ⟨e1, e2⟩ .nil => exact ⟨qv, by cases e1; rfl, e2⟩
  obtain ⟨qv, rfl, t2, rfl⟩ := kv1
  obtain ⟨esl⟩ := es
  have hp : PySem.Pairs (L2.mixKind X.prog X.w) esl [(.inl i, Value.int j t2)] := hp
  match esl, hp, hd with
  | [en], .cons p1 p2 .nil, hd =>
    have p1 : PySem.Value.isInt i en.key = true := p1
    have k1 : ∃ t, en.key = Value.int i t := by
      cases hk : en.key <;> rw [hk] at p1 <;> simp [PySem.Value.isInt] at p1
      subst p1
      exact ⟨_, rfl⟩
    obtain ⟨t1, k1⟩ := k1
    have r1 : ReadsAll s.heap [en.key] [.int i] ([] ++ []) := .cons (by rw [k1]; exact .int i t1) .nil
    have r2 : ReadsAll s.heap [en.val] [.int j] ([] ++ []) := .cons (by rw [show en.val = Value.int j t2 from p2]; exact .int j t2) .nil
    exact Reads.dict (kvs := [(.int i, .int j)]) hg hx.1 hd r1 r2
section
variable {X : Cx} {pins : List (Addr × Obj)} {σ : L2.St} {G H : Hp} {s : Shared}
mutual
theorem rp_reads (I : L2.Inv X pins σ H s) (e : Ex G H) : ∀ {v : V} {d : PyData}, Rp X.K G v d → noI d = true → ∀ {u : Value}, RelV v u → ∃ as, Reads s.heap u d as
  | _, _, .non, _, _, r => by cases (show _ = Value.none from r); exact ⟨_, .none⟩
  | _, _, .bl b, _, _, r => by cases (show _ = Value.bool b from r); exact ⟨_, .bool b⟩
  | _, _, .int i, _, _, r => by obtain ⟨t, rfl⟩ := (show ∃ t, _ = Value.int i t from r); exact ⟨_, .int i t⟩
  | _, _, .str x, _, _, r => by obtain ⟨t, rfl⟩ := (show ∃ t, _ = Value.str x t from r); exact ⟨_, .str x t⟩
  | _, _, .lst h k, n, _, r => by
    cases (show _ = Value.ref _ from r)
    have z := I.hok _ _ (e _ _ h)
    unfold L2.ObjOk at z
    obtain ⟨_, us, m, hv, hg⟩ := z
    obtain ⟨as, q⟩ := rpA_reads I e k (noI_l.symm.trans n) hv
    exact ⟨_, .list hg rfl rfl q⟩
  | _, _, .tup h k, n, _, r => by
    cases (show _ = Value.ref _ from r)
    have z := I.hok _ _ (e _ _ h)
    unfold L2.ObjOk at z
    obtain ⟨_, us, hv, o, hg, hc, m, hd⟩ := z
    obtain ⟨as, q⟩ := rpA_reads I e k (noI_t.symm.trans n) hv
    exact ⟨_, .tuple hg hc hd q⟩
  | _, _, .ins _ _ _, n, _, _ => by rw [noI_ins] at n; cases n
  | _, _, .dct h, _, _, r => by
    cases (show _ = Value.ref _ from r)
    exact ⟨_, (reads_dct I (e _ _ h)).1⟩
theorem rpA_reads (I : L2.Inv X pins σ H s) (e : Ex G H) : ∀ {vs : List V} {ds : List PyData}, RpA X.K G vs ds → noIA ds = true → ∀ {us : List Value}, Vals vs us → ∃ as, ReadsAll s.heap us ds as
  | _, _, .nil, _, _, r => by cases r; exact ⟨_, .nil⟩
  | _, _, .cons h k, n, _, r => by
    have q := Bool.and_eq_true_iff.mp (noIA_c.symm.trans n)
    cases r with
    | cons r1 r2 =>
      obtain ⟨as, h1⟩ := rp_reads I e h q.1 r1
      obtain ⟨bs, h2⟩ := rpA_reads I e k q.2 r2
      exact ⟨_, .cons h1 h2⟩
end
abbrev RprG (X : Cx) (s : Shared) (v : V) (d : PyData) : Prop := noI d = true → d.showable = true → d.shown.length ≤ sizeLine → ∀ u : Value, RelV v u → ∃ bs, ReadAtMost s.heap d.depth bs ∧ ReprK X.prog X.w bs s.heap d.depth u d.shown
abbrev RprA (X : Cx) (s : Shared) (vs : List V) (ds : List PyData) : Prop := noIA ds = true → PyData.showableAll ds = true → (∀ t ∈ PyData.shownAll ds, t.length ≤ sizeLine) → ∀ us : List Value, Vals vs us → ∃ bs, ReadAtMost s.heap (PyData.depthAll ds) bs ∧ ReprAllK X.prog X.w bs s.heap (PyData.depthAll ds) us (PyData.shownAll ds)
theorem rpr_lst (I : L2.Inv X pins σ H s) (e : Ex G H) {a : Addr} {xs : List V} {ds : List PyData} (h : G a = some (.lst xs)) (k : RpA X.K G xs ds) (ih : RprA X s xs ds) : RprG X s (.ref a) (.list ds) := fun n hs hz u r => by
  obtain ⟨ra, rr⟩ := rp_reads I e (.lst h k) n r
  cases (show u = Value.ref a from r)
  have z := I.hok _ _ (e _ _ h)
  unfold L2.ObjOk at z
  obtain ⟨_, us, m, hv, hg⟩ := z
  obtain ⟨bs, hb, hk⟩ := ih (noI_l.symm.trans n) (by simpa [PyData.showable] using hs) (fun t ht => Nat.le_trans (listText_mem_le ht) hz) us hv
  have hna := not_mem_of_deeper rr (show PyData.depthAll ds < (PyData.list ds).depth from Nat.lt_succ_self _) hb
  refine ⟨a :: bs, ReadAtMost.cons rr (show PyData.depthAll ds ≤ (PyData.list ds).depth from Nat.le_succ _) hb, ?_⟩
  show ReprK X.prog X.w (a :: bs) s.heap (PyData.depthAll ds + 1) (Value.ref a) (listText (PyData.shownAll ds))
  cases us with
  | nil =>
    cases hk' : PyData.shownAll ds with
    | nil =>
      rw [listText_nil]
      exact ReprK.listEmpty hg rfl rfl
    | cons t ts => rw [hk'] at hk; cases hk
  | cons x l => exact ReprK.list hg rfl rfl hna (by rw [List.size_toArray]; exact hk.length_eq) fun i y ey => hk.item i y (by rw [← ey]; simp)
theorem rpr_tup (I : L2.Inv X pins σ H s) (e : Ex G H) {a : Addr} {xs : List V} {ds : List PyData} (h : G a = some (.tup xs)) (k : RpA X.K G xs ds) (ih : RprA X s xs ds) : RprG X s (.ref a) (.tuple ds) := fun n hs hz u r => by
  obtain ⟨ra, rr⟩ := rp_reads I e (.tup h k) n r
  cases (show u = Value.ref a from r)
  have z := I.hok _ _ (e _ _ h)
  unfold L2.ObjOk at z
  obtain ⟨_, us, hv, o, hg, hc, m, hd⟩ := z
  obtain ⟨bs, hb, hk⟩ := ih (noI_t.symm.trans n) (by simpa [PyData.showable] using hs) (fun t ht => Nat.le_trans (tupleText_mem_le ht) hz) us hv
  have hna := not_mem_of_deeper rr (show PyData.depthAll ds < (PyData.tuple ds).depth from Nat.lt_succ_self _) hb
  exact ⟨a :: bs, ReadAtMost.cons rr (show PyData.depthAll ds ≤ (PyData.tuple ds).depth from Nat.le_succ _) hb, ReprK.tuple hg hc hd hna hk⟩
theorem rpr_dct (I : L2.Inv X pins σ H s) (e : Ex G H) {a : Addr} {i j : Int} (h : G a = some (.dK [(.inl i, .int j)])) : RprG X s (.ref a) (.dict [(.int i, .int j)]) := fun n hs hz u r => by
  cases (show u = Value.ref a from r)
  obtain ⟨q, ne⟩ := reads_dct I (e _ _ h)
  exact ReprK.of_reads q hs (fun _ hm => ne (List.mem_singleton.mp hm).symm) hz
theorem rpr_cons {v : V} {vs : List V} {d : PyData} {ds : List PyData} (ih : RprG X s v d) (ia : RprA X s vs ds) : RprA X s (v :: vs) (d :: ds) := fun n hs hz us r => by
  have q := Bool.and_eq_true_iff.mp (noIA_c.symm.trans n)
  have w := Bool.and_eq_true_iff.mp (show (PyData.showable _ && PyData.showableAll _) = true by simpa [PyData.showableAll] using hs)
  cases r with
  | cons r1 r2 =>
    obtain ⟨b1, hb1, k1⟩ := ih q.1 w.1 (hz _ (by rw [PyData.shownAll]; exact List.mem_cons_self)) _ r1
    obtain ⟨b2, hb2, k2⟩ := ia q.2 w.2 (fun t ht => hz t (by rw [PyData.shownAll]; exact List.mem_cons_of_mem _ ht)) _ r2
    have g1 : d.depth ≤ PyData.depthAll (d :: ds) := by rw [PyData.depthAll]; exact Nat.le_max_left _ _
    have g2 : PyData.depthAll ds ≤ PyData.depthAll (d :: ds) := by rw [PyData.depthAll]; exact Nat.le_max_right _ _
    refine ⟨b1 ++ b2, fun b hm => ?_, ?_⟩
    · rcases List.mem_append.mp hm with hm | hm
      · obtain ⟨d', as', r', h'⟩ := hb1 b hm
        exact ⟨d', as', r', Nat.le_trans h' g1⟩
      · obtain ⟨d', as', r', h'⟩ := hb2 b hm
        exact ⟨d', as', r', Nat.le_trans h' g2⟩
    · rw [PyData.shownAll]
      exact .cons ((k1.more fun b hb => List.mem_append_left b2 hb).level_le g1) (ReprAllK.more_le (fun b hb => List.mem_append_right b1 hb) g2 k2)
theorem rpr_nil : RprA X s [] [] := fun _ _ _ us r => by cases r; exact ⟨[], (fun x h => by cases h), ReprAllK.nil⟩
theorem rpr_ins {a : Addr} {i : Int} {xs ys : List PyData} : RprG X s (.ref a) (.dict [(.int i, .tuple xs), (.none, .tuple ys)]) := fun n => by
  rw [noI_ins] at n
  cases n
theorem rpA_repr (I : L2.Inv X pins σ H s) (e : Ex G H) {vs : List V} {ds : List PyData} (h : RpA X.K G vs ds) : RprA X s vs ds :=
  RpA.rec (motive_1 := fun v d _ => RprG X s v d) (motive_2 := fun vs ds _ => RprA X s vs ds)
    (fun _ hs hz u r => by cases (show u = Value.none from r); exact ReprK.of_reads .none hs (fun h => by cases h) hz)
    (fun b _ hs hz u r => by cases (show u = Value.bool b from r); exact ReprK.of_reads (.bool b) hs (fun h => by cases h) hz)
    (fun i _ hs hz u r => by obtain ⟨t, rfl⟩ := (show ∃ t, u = Value.int i t from r); exact ReprK.of_reads (.int i t) hs (fun h => by cases h) hz)
    (fun x _ hs hz u r => by obtain ⟨t, rfl⟩ := (show ∃ t, u = Value.str x t from r); exact ReprK.of_reads (.str x t) hs (fun h => by cases h) hz)
    (fun h k ih => rpr_lst I e h k ih) (fun h k ih => rpr_tup I e h k ih) (fun _ _ _ _ => rpr_ins) (fun h => rpr_dct I e h) rpr_nil (fun _ _ ih ia => rpr_cons ih ia) h
end
def rReprW (K : PySem.W.Frag) : List V → Hp → VK → Prop := fun xs H Q => ∃ G v x ds, xs = [v] ∧ Ex G H ∧ Rp K G v (.list (x :: ds)) ∧ noI (.list (x :: ds)) = true ∧ (PyData.list (x :: ds)).showable = true ∧ (PyData.list (x :: ds)).depth ≤ 64 ∧ (PyData.list (x :: ds)).shown.length ≤ sizeLine ∧ Q (.str (PyData.list (x :: ds)).shown) H
theorem cr_reprW {X : Cx} {k : Nat} (hG : X.A.guards = some []) (hr : Room k X.A) : CallR X (.builtin "repr") (rReprW X.K) := by
  intro pins s σ H xs us Q I r h
  obtain ⟨G, v, x, ds, rfl, e, rp, no, hs, hd, hz, q⟩ := h
  obtain ⟨u, rfl, ru⟩ := vals1 r
  obtain ⟨a, ys, rfl, ha, ry⟩ := rp.l
  obtain ⟨ra, rr⟩ := rp_reads I e rp no ru
  cases (show u = Value.ref a from ru)
  have z := I.hok _ _ (e _ _ ha)
  unfold L2.ObjOk at z
  obtain ⟨_, us, m, hv, hg⟩ := z
  obtain ⟨bs, hb, hk⟩ := rpA_repr I e ry (noI_l.symm.trans no) (by simpa [PyData.showable] using hs) (fun t ht => Nat.le_trans (listText_mem_le ht) hz) _ hv
  have hna := not_mem_of_deeper rr (show PyData.depthAll (x :: ds) < (PyData.list (x :: ds)).depth from Nat.lt_succ_self _) hb
  have un := hr.un
  have hd : PyData.depthAll (x :: ds) + 1 ≤ 64 := hd
  refine call_repr_slot (T := "list") (idr := "list.__repr__") (by omega) ⟨_, hg, rfl⟩ (Slot.toG F.slot_list_repr) ?_
  cases us with
  | nil => cases hk
  | cons y l => exact call_list_reprK hg rfl rfl hna (by rw [List.size_toArray]; exact hk.length_eq) (fun i y ey => hk.item i y (by rw [← ey]; simp)) (show X.A.in1.guards = some [] from hG) (fun b _ => Clear.nil b) (show X.A.in1.units + _ < cLine from by show X.A.units + 1 + _ < cLine; omega) (fun b o e => e) (fun h' t tk hk => ⟨_, t, rfl, .str _, H, I.kept hk, ⟨t, rfl⟩, q⟩) hz
def rReprV (K : PySem.W.Frag) : List V → Hp → VK → Prop := fun xs H Q => ∃ G v d, xs = [v] ∧ Ex G H ∧ Rp K G v d ∧ noI d = true ∧ d.showable = true ∧ d.depth ≤ 64 ∧ d.shown.length ≤ sizeLine ∧ Q (.str d.shown) H
theorem cr_reprV {X : Cx} {k : Nat} (hG : X.A.guards = some []) (hr : Room k X.A) : CallR X (.builtin "repr") (rReprV X.K) := by
  intro pins s σ H xs us Q I r h
  obtain ⟨G, v, d, rfl, e, rp, no, hs, hd, hz, q⟩ := h
  obtain ⟨u, rfl, ru⟩ := vals1 r
  have un := hr.un
  cases rp with
  | non =>
    cases (show u = Value.none from ru)
    exact PySem.P.repr_of_none ⟨.str _, H, I.tok _, ⟨_, rfl⟩, q⟩
  | bl b =>
    cases (show u = Value.bool b from ru)
    exact PySem.P.repr_of_bool ⟨.str _, H, I.tok _, ⟨_, rfl⟩, by cases b <;> exact q⟩
  | int i =>
    obtain ⟨t, rfl⟩ := (show ∃ t, u = Value.int i t from ru)
    exact PySem.P.repr_of_int (of_decide_eq_true hs) ⟨.str _, H, I.tok _, ⟨_, rfl⟩, q⟩
  | str x =>
    obtain ⟨t, rfl⟩ := (show ∃ t, u = Value.str x t from ru)
    exact PySem.P.repr_of_str (hsz := hz) ⟨.str _, H, I.tok _, ⟨_, rfl⟩, q⟩
  | lst ha ry =>
    rename_i a ys ds
    cases ds with
    | nil =>
      obtain ⟨ra, rr⟩ := rp_reads I e (.lst ha ry) no ru
      cases (show u = Value.ref a from ru)
      exact repr_of_reads' rr hs (PyData.noDict_hsm rfl) hG (by omega) (fun _ _ e => e) (fun h' u tk hk => ⟨.str _, H, I.kept hk, ⟨u, rfl⟩, q⟩) hz
    | cons x ds => exact cr_reprW hG hr pins s σ H _ _ Q I r ⟨G, _, x, ds, rfl, e, .lst ha ry, no, hs, hd, hz, q⟩
  | tup ha ry =>
    rename_i a ys ds
    obtain ⟨ra, rr⟩ := rp_reads I e (.tup ha ry) no ru
    cases (show u = Value.ref a from ru)
    have z := I.hok _ _ (e _ _ ha)
    unfold L2.ObjOk at z
    obtain ⟨_, us, hv, o, hg, hc, m, hdd⟩ := z
    obtain ⟨bs, hb, hk⟩ := rpA_repr I e ry (noI_t.symm.trans no) (by simpa [PyData.showable] using hs) (fun t ht => Nat.le_trans (tupleText_mem_le ht) hz) _ hv
    have hna := not_mem_of_deeper rr (show PyData.depthAll ds < (PyData.tuple ds).depth from Nat.lt_succ_self _) hb
    have hd : PyData.depthAll ds + 1 ≤ 64 := hd
    refine call_repr_slot (T := "tuple") (idr := "tuple.__repr__") (by omega) ⟨_, hg, hc⟩ F.slot_tuple_repr ?_
    exact call_tuple_reprK hg hc hdd hna hk (show X.A.in1.guards = some [] from hG) (fun b _ => Clear.nil b) (show X.A.in1.units + _ < cLine from by show X.A.units + 1 + _ < cLine; omega) (fun b o e => e) (fun h' t tk hk => ⟨_, t, rfl, .str _, H, I.kept hk, ⟨t, rfl⟩, q⟩) hz
  | ins _ _ _ => rw [noI_ins] at no; cases no
  | dct h =>
    rename_i a i j
    cases (show u = Value.ref a from ru)
    obtain ⟨rr, ne⟩ := reads_dct I (e _ _ h)
    exact repr_of_reads' rr hs (fun _ hm => ne (List.mem_singleton.mp hm).symm) hG (by omega) (fun _ _ e => e) (fun h' u tk hk => ⟨.str _, H, I.kept hk, ⟨u, rfl⟩, q⟩) hz
def rReprA (K : PySem.W.Frag) : List V → Hp → VK → Prop := fun xs H Q => rReprD K xs H Q ∨ (xs = [.non] ∧ Q (.str "None") H) ∨ (∃ a, xs = [.str a] ∧ (PySem.reprText a).length ≤ sizeLine ∧ Q (.str (PySem.reprText a)) H) ∨ rReprW K xs H Q ∨ rReprV K xs H Q
theorem cr_reprA {X : Cx} {k : Nat} (hG : X.A.guards = some []) (hr : Room k X.A) : CallR X (.builtin "repr") (rReprA X.K) := by
  intro pins s σ H xs us Q I r h
  rcases h with h | ⟨rfl, q⟩ | ⟨a, rfl, hz, q⟩ | h | h
  · exact cr_reprD hG hr pins s σ H xs us Q I r h
  · obtain ⟨u, rfl, rfl⟩ := vals1 r
    exact PySem.P.repr_of_none ⟨.str _, H, I.tok _, ⟨_, rfl⟩, q⟩
  · obtain ⟨u, rfl, t, rfl⟩ := vals1 r
    exact PySem.P.repr_of_str (hsz := hz) ⟨.str _, H, I.tok _, ⟨_, rfl⟩, q⟩
  · exact cr_reprW hG hr pins s σ H xs us Q I r h
  · exact cr_reprV hG hr pins s σ H xs us Q I r h
theorem cd_reprA {K : PySem.W.Frag} {d : PyData} (no : noD d = true) (h1 : d.showable = true) (h2 : d.hasDict = false) (h3 : d.depth ≤ 64) (h4 : d.shown.length ≤ sizeLine) (hl : (∃ xs, d = .list xs) ∨ d = .none ∨ ∃ x, d = .str x) : CD K (rReprA K) [d] (· = .str d.shown) := fun B G H vs I r Q q => by
  rcases hl with hl | rfl | ⟨x, rfl⟩
  · exact .inl (cd_repr no h1 h2 h3 h4 hl B G H vs I r Q q)
  · cases r with
    | cons r rs =>
      cases rs
      cases r
      exact .inr (.inl ⟨rfl, q _ _ G H rfl (Gm.refl I.gh) (.str _)⟩)
  · cases r with
    | cons r rs =>
      cases rs
      cases r
      exact .inr (.inr (.inl ⟨_, rfl, h4, q _ _ G H rfl (Gm.refl I.gh) (.str _)⟩))
theorem cd_reprV {K : PySem.W.Frag} {d : PyData} (no : noI d = true) (h1 : d.showable = true) (h3 : d.depth ≤ 64) (h4 : d.shown.length ≤ sizeLine) : CD K (rReprA K) [d] (· = .str d.shown) := fun B G H vs I r Q q => by
  cases r with
  | cons r rs =>
    cases rs
    exact .inr (.inr (.inr (.inr ⟨G, _, d, rfl, I.gh, r, no, h1, h3, h4, q _ _ G H rfl (Gm.refl I.gh) (.str _)⟩)))
end DL
namespace DL
open PySem PySem.Spec PyProof.Rows L2 Evl
section
variable {prog : Program} {w : World} {A : Around} {E : Value → Shared → Prop} {s : Shared}
end
section
variable {X : Cx}
end
section
variable [Tb] {K : PySem.W.Frag} {B : Base} {δ : En} {te : TE}
end
end DL
namespace DL
open PySem PySem.Spec PySem.Calls PyProof.Rows L2 Evl PySem.W
section
variable [Tb] {X : Cx}
end
section
variable [Tb] {K : PySem.W.Frag} {B : Base} {δ : En} {te : TE}
end
end DL
namespace DL
variable [Tb]
open PySem PySem.Spec PyProof.Rows L2 Evl StX
section
variable {K : PySem.W.Frag} {B : Base} {δ : En} {te : TE} {tr tA : TA} {E : XK} {P : Pd} {R : XR}
end
section
variable {P : Program} {w : World} {K : PySem.W.Frag} {mg : Str → Option Value} {base : Heap} {x qual : Str} {params : Arguments} {body : List Stmt} {scope : Scope} {dvs : List V} {kws : List (Str × V)} {f : Addr} {fd : FuncData} {N ps : List Str} {k : Nat}
end
end DL
namespace DL
open PySem PySem.Spec PyProof.Rows L2
section
variable {X : Cx} {pins : List (Addr × Obj)} {σ : L2.St} {H : Hp} {s s' : Shared} {W : WX} {E : XK} {C L : Addr} {ce : Env} {m : Str → Option Value}
end
section
variable {X : Cx}
end
end DL
namespace DL
variable [Tb]
open PySem PySem.Spec PyProof.Rows L2 Evl StX
section
variable {K : PySem.W.Frag} {B : Base} {δ : En} {te : TE} {E : XK} {P : Pd} {R : XR} {wi : TI} {g : TG} {vs : List Nat}
end
section
variable {P : Program} {w : World} {K : PySem.W.Frag} {mg : Str → Option Value} {base : Heap} {x qual : Str} {params : Arguments} {body : List Stmt} {scope : Scope} {kws : List (Str × V)} {f : Addr} {fd : FuncData} {N ps : List Str} {k : Nat}
end
end DL
namespace DL
variable [Tb]
open PySem PySem.Spec PyProof.Rows L2 Evl
section
variable {K : PySem.W.Frag} {B : Base} {G H : Hp} {δ : En} {te ta tb : TE} {tA : TA} {n : Nat} {N : List Str} {vs : List V} {Q : VK} {X E : XK} {P : Pd} {R : XR} {ds : List PyData} {d : PyData}
end
section
variable {P : Program} {w : World} {K : PySem.W.Frag} {mg : Str → Option Value} {base : Heap} {x qual : Str} {st : Stmt} {f : Addr} {fd : FuncData} {N ps : List Str} {k : Nat}
end
section
variable {K : PySem.W.Frag} {B : Base} {δ : En} {te ta tb : TE}
end
end DL
namespace DL
variable [Tb]
open PySem PySem.Spec PyProof.Rows L2 Evl
def rTupF (K : PySem.W.Frag) : List V → Hp → VK → Prop := fun xs H Q => ∃ p ys, xs = [.ref p] ∧ SqL K H p ys ∧ ∀ l o, H l = none → o.dict = none → Q (.ref l) (upd H l (.frz o (.tup ys)))
theorem call_tupF {X : Cx} : CallR X (.type "tuple") (rTupF X.K) := fun pins s σ H xs us Q I r h => by
  obtain ⟨p, ys, rfl, hq, q⟩ := h
  obtain ⟨u, rfl, rx⟩ := vals1 r
  cases rx
  obtain ⟨its, rv, pl, hz⟩ := I.list hq
  have e := rv.length
  refine call_tuple_list pl.isList (fun h' kp => ?_) (by simp only [List.size_toArray] <;> omega)
  have J : Inv X pins σ H { s with heap := h' } := I.kept (t' := s.toks) kp
  have at_ : (h'.push { cls := .type "tuple", data := .seq its.toArray }).get? h'.objs.size = some { cls := .type "tuple", data := .seq its.toArray } := Heap.get?_push_size _ rfl
  have J2 : Inv X pins σ (upd H h'.objs.size (.frz { cls := .type "tuple", data := .seq its.toArray } (.tup ys))) { s with heap := h'.push { cls := .type "tuple", data := .seq its.toArray } } :=
    J.laid (t' := s.toks) (fun b o z => Heap.get?_push_of_some _ z) (Nat.le_refl _) ⟨at_, hz, its, rv, IsTup.new _ _⟩
  exact ⟨.ref h'.objs.size, _, J2, rfl, q _ _ (J.hok.fresh (Nat.le_refl _)) rfl⟩
def rTupB (K : PySem.W.Frag) : List V → Hp → VK → Prop := fun xs H Q => rTupQ K xs H Q ∨ rTupF K xs H Q
theorem call_tupB {X : Cx} : CallR X (.type "tuple") (rTupB X.K) := CallR.or call_tuple_of call_tupF
theorem cd_tupB {K : PySem.W.Frag} {ds : List PyData} : CD K (rTupB K) [.list ds] (· = .tuple ds) := fun B G H vs I r Q q => .inl (cd_tupL B G H vs I r Q q)
section
variable {K : PySem.W.Frag} {B : Base} {δ : En} {te tb : TE} {tA : TA} {t u : TS} {n : Nat} {N : List Str} {E : XK} {Pl : List PyData → Prop} {R : XR} {ds es : List PyData}
end
end DL
namespace DL
variable [Tb]
open PySem PySem.Spec PyProof.Rows L2 Evl
def tNever : TE := fun _ _ _ => False
section
variable {K : PySem.W.Frag} {B : Base} {δ : En} {ta tb : TE} {P : Pd} {R : XR} {E : XK} {U : Addr → Sp → Prop}
end
end DL
namespace DL
variable [Tb]
open PySem PySem.Spec PyProof.Rows L2 Evl
def rLenU (R : Addr → Sp → Prop) (E : XK) : List V → Hp → VK → Prop := fun xs H Q => ∃ (a C dx : Addr) (fs : List (Str × V)) (sp : Sp), xs = [.ref a] ∧ H a = some (.ins C dx fs) ∧ R C sp ∧ sp [.ref a] H (fun v H' => ∃ i : Int, v = .int i ∧ 0 ≤ i ∧ i < 2 ^ 63 ∧ Q v H') E
section
variable {K : PySem.W.Frag} {B : Base} {δ : En} {te ta tb : TE} {tt : TT} {P : Pd} {R : XR} {E : XK} {U : Addr → Sp → Prop} {Po' : Po}
theorem ed_lenU {C : Addr} {ns : List Str} {ds : List PyData} {W : WTX} {i : Int} (hU : U C (SpWX K 1 W)) (h : ED K B te δ (· = eIn C ns ds)) (w : W [eIn C ns ds] (· = .int i) R) (i0 : 0 ≤ i) (i1 : i < 2 ^ 63) (hE : EOk K B E R) : ED K B (tCB (rLenU U E) (tCons te tNil)) δ (· = .int i) := fun G H σ Ev Q q =>
  h G H σ Ev _ fun v d' G1 H1 e m1 r => by
    subst e
    obtain ⟨a, dx, fs, rfl, hA, hn, rs⟩ := ins_of r
    have I1 := Ev.iv.at m1
    refine ⟨a, C, dx, fs, _, rfl, m1.gh _ _ hA, hU, G1, [eIn C ns ds], (· = .int i), R, I1.i0, .one r, rfl, w, fun d po v G3 H3 J rd => ?_, fun C ds fs dd G3 H3 hr hf J hd => hE C ds fs dd G3 H3 hr hf ((Ev.at m1).iv.at (I1.gmP J)) hd⟩
    subst po
    have e := rd.i
    exact ⟨i, e, i0, i1, q v _ G3 H3 rfl (m1.trans (I1.gmP J) Ev.iv) rd⟩
end
end DL
namespace DL
variable [Tb]
open PySem PySem.Spec PyProof.Rows L2 Evl StX
section
variable {X : Cx} {st : Stmt} {rest : List Stmt} {a b : TS}
end
structure CalGe (P : Program) (w : World) (K : PySem.W.Frag) (mg : Str → Option Value) (base : Heap) (x : Str) (k : Nat) (ps : List Str) (sp : SpG) : Prop where
  ex : ∃ f fd, mg x = some (.ref f) ∧ PySem.W.keepIn K (.ref f) = true ∧ Binds K fd ps [] ∧ GFn P w K mg base k f fd ps sp
section
variable {P : Program} {w : World} {K : PySem.W.Frag} {mg : Str → Option Value} {base : Heap} {x qual : Str} {st : Stmt} {f : Addr} {fd : FuncData} {N ps : List Str} {k : Nat}
end
def tLG (K : PySem.W.Frag) (sp : SpG) (W : WX) (t : TA) : TE := fun σ H Q => t σ H fun vs H1 => sp vs H1 (fun out H2 => ∀ p, H2 p = none → Q (.ref p) (upd H2 p (.lst out))) (fun cls d H2 => W cls d σ H2 ∧ PySem.W.subIn K cls (.type "StopIteration") = some false)
section
variable {X : Cx} {x : Str} {k j : Nat} {ps : List Str} {sp : SpG} {W : WX} {p p2 pos pos2 : Pos} {e : Expr} {es : List Expr} {t : TA}
theorem pe_listGS (C : CalGe X.prog X.w X.K X.mg X.base x k ps sp) (hr : Room j X.A) (hj : k + 3 ≤ j) (hgl : Gl X "list") (hml : X.mg "list" = none) (hg : Gl X x) (tk : Takes X W) (ha : PA X (e :: es) t)
    (hdb : (x == ("__debug__" : Str)) = false := by decide) (he : starEach (e :: es) X.env = (false, eval e X.env) :: starEach es X.env := by rfl) (hpl : (backTo pos2 (starEach es X.env)).any (·.1) = false := by rfl)
    (he1 : starEach [Expr.Call (.Name x p2) (e :: es) [] pos2] X.env = (false, eval (Expr.Call (.Name x p2) (e :: es) [] pos2) X.env) :: starEach [] X.env := by rfl) :
    PE X (.Call (.Name "list" p) [.Call (.Name x p2) (e :: es) [] pos2] [] pos) (tLG X.K sp W t) := by
  obtain ⟨f, fd, h1, h2, h3, h4⟩ := C.ex
  refine ⟨fun pins s σ H Q I hq => ?_⟩
  have h := pgen_call (X := X) (dvs := []) (ds := []) (E := fun cls d H2 => W cls d σ H2 ∧ PySem.W.subIn X.K cls (.type "StopIteration") = some false) (p := p2) (pos' := pos2) h4 (hr.mono (by omega)) hg h1 h2 h3 .nil ha hdb he hpl
  refine wpAny_Call_Name_kw (ld_blt I hgl hml (show bootBuiltins ("list" : Str) = some (.type "list") by decide) (PyProof.Rows.callWith_type1 ?_ he1 rfl) (by decide) (by decide))
  rw [he1]
  refine Calls.spliced_cons (thn (h.run pins s σ H (fun out H2 => ∀ (p : Addr), H2 p = none → Q (V.ref p) (upd H2 p (HO.lst out))) I ?_) fun u s1 ⟨H1, sc, ex, I1, hex, hG⟩ => Calls.spliced_nil ?_)
  · show t σ H fun vs H1 => sp (vs ++ []) H1 _ _
    simp only [List.append_nil]
    exact hq
  · have hsz : sc.heap.objs.size ≤ s1.heap.objs.size := by
      obtain ⟨a, g, c, _, q1, q2, _⟩ := hG
      exact Nat.le_trans q1 (Nat.le_of_lt q2)
    refine call_list_new (hr.mono hj) I1.ok.frames hG (fun S s' acc c H' ys q0 q1 q2 hl q3 q4 q5 q6 q7 q8 => ⟨.ref S, upd H' S (.lst ys), I1.drained (Nat.le_trans hsz q0) hl q1 q2 hex q3 q4 q5 q6 q7, rfl, q8 S q7⟩) fun e s' g hc => ?_
    have kin : X.K.In s'.heap := by
      obtain ⟨a, B, H', cls, d, rfl, fl, _, ub, _⟩ := hc
      exact I1.ok.mod.kin.keeps fun b o eb => fl.1 b o (ub.keep b o (I1.bs b o eb).1 (I1.bs b o eb).2 fun hm => by
        rcases List.mem_cons.mp (I1.stkSub b hm) with z | z
        · have h1 := Heap.lt_size eb
          have h2 := Nat.le_trans I1.ok.bsz I1.ok.above
          rw [z] at h1
          exact absurd (Nat.lt_of_lt_of_le h1 h2) (Nat.lt_irrefl _)
        · exact I1.ok.nofr eb z)
    refine ⟨notStop_of (fun cls d H h => h.2) kin hc, passAt tk σ pins H1 sc e _ I1 ?_⟩
    obtain ⟨a, B, H', cls, d, z1, fl, z2, ub, z3, z4, z5, z6⟩ := hc
    exact ⟨a, B, H', cls, d, z1, fl, z2, ub, z3, z4, allBare_setGen z5 rfl, z6.1⟩
end
section
variable {K : PySem.W.Frag} {B : Base} {δ : En}
end
end DL
namespace DL
open PySem PySem.Spec PyProof.Rows L2 Evl
theorem seg_b {M : Model} {A : Around} {R : GenEnd} {Y : Protocol} {n : Nat} {s₀ s : Shared} {c : Code} {fs : List Frame} {α β : Type} {m : Sem α} {f : α → Sem β} {K : β → Sem PySem.Fin} {J : Value → Sem PySem.Fin} {gd : Bool → Bool} {lv : List Value → List Value}
    (h : wpAny M (A.over c fs) m (fun a s' => Seg M A R Y n s₀ c (Sem.wrap K J gd lv (f a)) fs s') (fun x s' => Seg M A R Y n s₀ c (J x) fs s') s) : Seg M A R Y n s₀ c (Sem.wrap K J gd lv (m >>= f)) fs s := by
  rw [Sem.bind_eq_wrap', Sem.wrap_wrap]
  exact seg_wrap h
def tGFor (wi : TI) (g : TG) (tb : TGn) : TGn := fun D ys σ H => wi σ H fun J H1 => ∃ W : Nat → Nat → List V → L2.St → Hp → Prop, (∃ m, W 0 m ys σ H1) ∧ ∀ i m ys σ H, W i m ys σ H → (J.stop i H ∧ D.nx ys σ H) ∨ (J.go i H ∧ ∃ N : List V → L2.St → Hp → Prop, (∀ ys' σ' H', N ys' σ' H' → ∃ m', m' < m ∧ W (i + 1) m' ys' σ' H') ∧ ∀ x H', J.yld i H x H' → g x σ H' fun σ2 H2 => tb { nx := N, rt := D.rt, bk := D.nx, ct := N } ys σ2 H2)
theorem gs_for {X : Cx} {tg iter : Expr} {body : List Stmt} {wi : TI} {g : TG} {tb : TGn} {pos : Pos} (hp : PassesOwn (model X.prog X.w) X.A X.env X.xe) (hc : X.calm = true) (hi : PI X tg iter wi) (hg : PG X tg g) (hb : GSs X body tb)
    (hs : ∀ x : Value, foldedSetIterable iter X.env x = pure x := by intro _; rfl) : GS X (.For tg iter body [] pos) (tGFor wi g tb) := by
  refine ⟨fun A S ip R n ys s₀ c fs K J gd lv s σ H D gc hn k hI ht => ?_⟩
  obtain ⟨acc, cc, rv, I⟩ := hI
  rw [exec_For]
  refine seg_b (wpAny_standAt ?_)
  refine seg_b ?_
  rw [gc.over]
  refine wpAny_mono (hi.run _ s σ H _ I ht) (fun v s1 h1 => ?_) fun x s' hx => k.exc n s₀ x s' hx
  rw [hs v]
  refine seg_b (wpAny_pure ?_)
  refine seg_b (wpAny_standAt ?_)
  refine seg_b (wpAny_holding ?_)
  rw [gc.over]
  refine wpAny_mono h1 (fun itv s2 h2 => ?_) fun x s' hx => k.exc n s₀ x s' hx
  obtain ⟨it, fp, tn, Jt, H2, rfl, I2, T, st2, f2, W, ⟨m0, w0⟩, turn⟩ := h2
  have stat : ∀ (acc : Array Value) (cc : Nat) {H' : Hp}, (∀ b ∈ fp, H' b = none) → ∀ b ∈ fp, FpOk X ((S, lstObj acc cc) :: ip) H' b := fun acc' cc' H' hn b hb => by
    obtain ⟨_, q1, q2, q3, q4, q5⟩ := f2 b hb
    refine ⟨hn b hb, q1, q2, q3, q4, fun p hp => ?_⟩
    rcases List.mem_append.mp hp with z | z
    · exact q5 p (List.mem_append_left _ z)
    · rcases List.mem_cons.mp z with rfl | z
      · exact q5 (S, lstObj acc cc) (List.mem_append_right _ List.mem_cons_self)
      · exact q5 p (List.mem_append_right _ (List.mem_cons_of_mem _ z))
  have Sfp : ∀ b ∈ fp, b ≠ S := fun b hb z => (f2 b hb).2.2.2.2.2 (S, lstObj acc cc) (List.mem_append_right _ List.mem_cons_self) z.symm
  refine seg_call (c' := Code.forLoop tg (.ref it) body [] X.env) (h := none) (g := gd false) (l := lv []) (k := fun r => Sem.wrap K J gd lv (Sem.onRaise (match r with
    | .ok f => Sem.pure f
    | .error e => Sem.raise e) (cameBack X.env))) fun p => ?_
  generalize hfs : (Frame.ret (fun r => Sem.wrap K J gd lv (Sem.onRaise (match r with
    | .ok f => Sem.pure f
    | .error e => Sem.raise e) (cameBack X.env))) none (gd false) (lv []) c p [] :: fs) = fs'
  have gl : GC X S ip A (Code.forLoop tg (.ref it) body [] X.env) fs' id := by
    rw [← hfs]
    exact gc_loop gc rfl rfl
  have leaf : ∀ {c' : Code} {n' : Nat} {ys' : List V} {s₀' s' : Shared} {f : Flow}, n' + ys'.length = sizeLine → GSP X S ip D ys' f s' → Seg (model X.prog X.w) A R (GY X S) n' s₀' c' (Sem.pure (PySem.Fin.done f)) fs' s' := fun {c' n' ys' s₀' s' f} h1 h2 => by
    rw [← hfs]
    exact seg_leaf (Except.ok f) (k.ok n' ys' s₀' s' f h1 h2)
  have ee : ∀ (c' : Code), A.over c' fs' = X.A → ∀ (n' : Nat) (s₀' : Shared) (x : Value) (s' : Shared), X.xe x s' → Seg (model X.prog X.w) A R (GY X S) n' s₀' c' (Sem.bind (do noteFrame x X.env; theTreesLotGoes x) fun _ => Sem.raise x) fs' s' := fun c' ov n' s₀' x s' hx => by
    rw [Sem.bind_eq_wrap]
    refine seg_wrap ?_
    rw [ov]
    refine wpAny_bind (wpAny_mono (hp x s' hx) (fun _ s'' hcb => wpAny_theTreesLotGoes ?_) fun y s'' hcb => ?_)
    · rw [← hfs]
      exact seg_leaf (Except.error x) (seg_cameBack gc k hcb)
    · rw [← hfs]
      exact seg_leaf (Except.error y) (seg_cameBack gc k hcb)
  have loop : ∀ m i n ys s₀ s σ H, n + ys.length = sizeLine → W i m ys σ H → (∃ acc cc, Vals ys acc.toList ∧ L2.Inv X ((S, lstObj acc cc) :: ip) σ H s) → tn i s.heap → (∀ b ∈ fp, H b = none) →
      Seg (model X.prog X.w) A R (GY X S) n s₀ (Code.forLoop tg (.ref it) body [] X.env) ((model X.prog X.w).den (Code.forLoop tg (.ref it) body [] X.env)) fs' s := fun m => by
    induction m using Nat.strongRecOn with
    | _ m ih => ?_
    intro i n ys s₀ s σ H hn w ⟨acc, cc, rv, I⟩ st fr
    show Seg (model X.prog X.w) A R (GY X S) n s₀ (Code.forLoop tg (.ref it) body [] X.env) (Sem.onRaise (forTurn tg (.ref it) body [] X.env) fun x => do noteFrame x X.env; theTreesLotGoes x) fs' s
    rw [Sem.onRaise_eq_wrap]
    unfold forTurn
    refine seg_b (wpAny_standAt ?_)
    refine seg_b (wpAny_onRaise ?_)
    rw [gl.over]
    rcases turn i m ys σ H w with ⟨stop, qn⟩ | ⟨go, N, hN, step⟩
    · refine wpAny_mono (T.done X rfl rfl rfl hc i _ s σ H (fun _ _ => False) I (stat acc cc fr) st stop) (fun r s4 h4 => ?_) fun _ _ h => h.elim
      obtain ⟨rfl, I4⟩ := h4
      refine seg_again rfl ?_
      show Seg (model X.prog X.w) A R (GY X S) n s₀ (Code.block [] X.env) (Sem.onRaise (execs [] X.env) (fun x => do noteFrame x X.env; theTreesLotGoes x) >>= fun f => pure (PySem.Fin.done f)) fs' s4
      rw [Sem.bind_eq_wrap', Sem.onRaise_eq_wrap, Sem.wrap_wrap]
      exact seg_execs_nil (leaf hn ⟨σ, H, ⟨acc, cc, rv, I4⟩, qn⟩)
    · refine wpAny_mono (T.item X rfl rfl rfl hc i _ s σ H (fun _ _ => False) I (stat acc cc fr) st go) (fun r s4 h4 => ?_) fun _ _ h => h.elim
      obtain ⟨u, rfl, h4⟩ := h4
      refine seg_b ?_
      rw [gl.over]
      refine wpAny_mono h4 (fun _ s5 h5 => ?_) fun _ _ h => h.elim
      obtain ⟨x, H5, I5, r5, y5, st5, fr5⟩ := h5
      have I5' := I5.pinned (stat acc cc fr5) (T.obj (i + 1) s5.heap st5)
      refine seg_b ?_
      rw [gl.over]
      refine wpAny_mono (hg.run _ s5 σ H5 x u _ I5' r5 (step x H5 y5)) (fun _ s6 h6 => ?_) fun x s' hx => ee _ gl.over n s₀ x s' hx
      obtain ⟨σ6, H6, I6, q6⟩ := h6
      rw [Sem.bind_eq_wrap', Sem.wrap_wrap]
      have un : ∀ {ys' : List V} {σ7 : L2.St} {H7 : Hp} {s7 : Shared}, GI X S (ip ++ pinsAt fp s5.heap) ys' σ7 H7 s7 → GI X S ip ys' σ7 H7 s7 ∧ tn (i + 1) s7.heap ∧ ∀ b ∈ fp, H7 b = none := fun {ys' σ7 H7 s7} h => by
        obtain ⟨acc7, cc7, rv7, I7⟩ := h
        have I7 : L2.Inv X (((S, lstObj acc7 cc7) :: ip) ++ pinsAt fp s5.heap) σ7 H7 s7 := I7
        refine ⟨⟨acc7, cc7, rv7, I7.unpinned⟩, T.keep (i + 1) s5.heap s7.heap st5 fun b hb o e => (I7.pin (b, o) (List.mem_append_right _ (List.mem_append_right _ (mem_pinsAt hb e)))).1, fun b hb => ?_⟩
        obtain ⟨o, e, _⟩ := T.obj (i + 1) s5.heap st5 b hb
        exact (I7.pin (b, o) (List.mem_append_right _ (List.mem_append_right _ (mem_pinsAt hb e)))).2.1
      have nxt : ∀ {n' : Nat} {ys' : List V} {s₀' s' : Shared}, n' + ys'.length = sizeLine → (∃ σ H, GI X S (ip ++ pinsAt fp s5.heap) ys' σ H s' ∧ N ys' σ H) → Seg (model X.prog X.w) A R (GY X S) n' s₀' (Code.forLoop tg (.ref it) body [] X.env) (Sem.pure (PySem.Fin.again (Code.forLoop tg (.ref it) body [] X.env))) fs' s' := fun {n' ys' s₀' s'} h1 h2 => by
        obtain ⟨σ7, H7, g7, n7⟩ := h2
        obtain ⟨g8, t8, f8⟩ := un g7
        obtain ⟨m', lt, w7⟩ := hN ys' σ7 H7 n7
        exact seg_again rfl (ih m' lt (i + 1) n' ys' s₀' s' σ7 H7 h1 w7 g8 t8 f8)
      refine hb.run A S (ip ++ pinsAt fp s5.heap) R n ys s₀ (Code.forLoop tg (.ref it) body [] X.env) fs' _ _ _ _ s6 σ6 H6 { nx := N, rt := D.rt, bk := D.nx, ct := N } ⟨gl.pn, fun p hp => ?_, gl.apart, gl.over, gl.split, gl.guard, rfl⟩ hn ⟨fun n' ys' s₀' s' f h1 h2 => ?_, fun n' s₀' e s' hx => ee _ gl.over n' s₀' e s' hx⟩ ⟨acc, cc, rv, I6⟩ q6
      · rcases List.mem_append.mp hp with z | z
        · exact gl.ip p z
        · unfold pinsAt at z
          obtain ⟨b, hb, e⟩ := List.mem_filterMap.mp z
          cases h : s5.heap.get? b with
          | none => rw [h] at e; cases e
          | some o =>
            rw [h] at e
            cases e
            exact Sfp b hb
      · match f, h2 with
        | .next, h2 => exact nxt h1 h2
        | .cont, h2 => exact nxt h1 h2
        | .brk, h2 =>
          obtain ⟨σ7, H7, g7, n7⟩ := h2
          exact leaf (f := .next) h1 ⟨σ7, H7, (un g7).1, n7⟩
        | .ret v, h2 =>
          obtain ⟨v', σ7, H7, g7, r7, n7⟩ := h2
          exact leaf (f := .ret v) h1 ⟨v', σ7, H7, (un g7).1, r7, n7⟩
  exact loop m0 0 n ys s₀ s2 σ H2 hn w0 ⟨acc, cc, rv, I2⟩ st2 fun b hb => (f2 b hb).1
end DL
namespace DL
open PySem PySem.Spec PyProof.Rows L2 Evl
section
variable {X : Cx} {st : Stmt} {rest : List Stmt} {t u : TGn}
end
end DL
namespace DL
open PySem PySem.Spec PyProof.Rows L2 Evl
end DL
namespace DL
variable [Tb]
open PySem PySem.Spec PyProof.Rows L2 Evl
def tLsG (sp : SpG) (t : TA) : TE := fun σ H Q => t σ H fun vs H1 => sp vs H1 (fun out H2 => ∀ p, H2 p = none → Q (.ref p) (upd H2 p (.lst out))) (fun _ _ _ => False)
end DL
namespace DL
variable [Tb]
open PySem PySem.Spec PyProof.Rows L2 Evl StX
def GBD (K : PySem.W.Frag) (B : Base) (t : TGn) (δ : En) (es : List PyData) (Pn : En → List PyData → Prop) : Prop := ∀ G H σ (D : GEnds) ys, EnvD K B G H σ δ → RpA K G ys es → (∀ δ' es' ys' G' H' σ', Pn δ' es' → Ex G G' → EnvD K B G' H' σ' δ' → RpA K G' ys' es' → D.nx ys' σ' H') → t D ys σ H
abbrev WGX := List PyData → (List PyData → Prop) → XR → Prop
def wG (K : PySem.W.Frag) (t : XK → TGn) (N : List Str) : WGX := fun ds P R => ∀ B E, EOk K B E R → GBD K B (t E) (stD N ds) [] (fun _ es => P es)
def SpGL (K : PySem.W.Frag) (n : Nat) (W : WGX) : SpG := fun vs H Q E => ∃ G ds P R, I0 G H ∧ RpA K G vs ds ∧ ds.length = n ∧ W ds P R ∧ (∀ es, P es → ∀ ys G' H', Iv ⟨G, H, fun _ => False⟩ G' H' → RpA K G' ys es → Q ys H') ∧ EOk K ⟨G, H, fun _ => False⟩ E R
section
variable {K : PySem.W.Frag} {B : Base} {δ : En} {es : List PyData} {Pn : En → List PyData → Prop} {t : TS} {u : TGn} {tA : TA} {n : Nat}
theorem gds_plain (h : SD K B t δ ⟨fun δ' => GBD K B u δ' es Pn, fun _ => False, fun _ => False, fun _ => False⟩) : GBD K B (tGThen (tPlain t) u) δ es Pn := fun G H σ D ys E r a =>
  h G H σ _ E (fun δ' G' H' σ' q e E' => q G' H' σ' D ys E' (r.mono e) fun δ2 es2 ys2 G2 H2 σ2 p e2 E2 r2 => a δ2 es2 ys2 G2 H2 σ2 p (e.trans e2) E2 r2) (fun _ _ _ _ q => q.elim) (fun _ _ _ _ q => q.elim) (fun _ _ _ _ q => q.elim)
theorem gds_forY {wi : TI} {j : Nat} {ds : List PyData} (hw : WD K B wi δ (· = ds)) (hj : j < δ.length) (hz : es.length + ds.length ≤ 100000) (kk : ∀ s, Pn (δ.set j s) (es ++ ds)) : GBD K B (tGThen (tGFor wi (gName j) (tGThen (tGYield (tVar j)) tG0)) tG0) δ es Pn := fun G H σ D ys E r a => by
  refine hw G H σ E _ fun J ds' G1 H1 pd m jd => ?_
  subst pd
  refine ⟨fun i k ys' σ' H' => k = ds'.length - i ∧ i ≤ ds'.length ∧ ∃ s G', Ex G1 G' ∧ EnvD K B G' H' σ' (δ.set j s) ∧ RpA K G' ys' (es ++ ds'.take i), ⟨ds'.length, by simp, Nat.zero_le _, δ[j], G1, Ex.refl G1, ?_, ?_⟩, ?_⟩
  · rw [List.set_getElem_self]
    exact E.at m
  · rw [List.take_zero, List.append_nil]
    exact r.mono m.gg
  rintro i k ys' σ' H' ⟨rfl, hi, s, G', e1, E', r'⟩
  have eg : Ex G1 H' := e1.trans E'.iv.gh
  by_cases hlt : i < ds'.length
  · refine .inr ⟨jd.go i H' eg hlt, fun ys2 σ2 H2 => i + 1 ≤ ds'.length ∧ ∃ s G2, Ex G1 G2 ∧ EnvD K B G2 H2 σ2 (δ.set j s) ∧ RpA K G2 ys2 (es ++ ds'.take (i + 1)), fun ys2 σ2 H2 p => ⟨ds'.length - (i + 1), by omega, rfl, p⟩, fun x H3 y => ?_⟩
    obtain ⟨G3, dd, m3, hd, rx⟩ := jd.yld i H' x H3 eg hlt y B G' e1 E'.iv
    refine (gd_name (i := j) (d := dd) (δ := δ.set j s)) G3 H3 σ' x (E'.at m3) rx _ fun σ2 E2 _ => ?_
    rw [List.set_set] at E2
    have yl := r'.length
    refine ⟨?_, (ed_var (i := j) (δ := δ.set j (.sh dd)) (List.getElem?_set_self hj)) G3 H3 σ2 E2 _ fun v d G4 H4 pd4 m4 r4 => ?_⟩
    · rw [yl, List.length_append, List.length_take, sizeLine_eq]
      omega
    · subst pd4
      refine ⟨hlt, .sh d, G4, (e1.trans m3.gg).trans m4.gg, E2.at m4, ?_⟩
      have tk : ds'.take (i + 1) = ds'.take i ++ [d] := by rw [List.take_succ, hd]; rfl
      rw [tk, ← List.append_assoc]
      exact ((r'.mono m3.gg).mono m4.gg).append (.one r4)
  · have e : i = ds'.length := by omega
    subst e
    refine .inl ⟨jd.stop H' eg, a _ _ ys' G' H' σ' (kk s) (m.gg.trans e1) E' ?_⟩
    rw [List.take_length] at r'
    exact r'
theorem ed_lsG {W : WGX} {ds : List PyData} {P : List PyData → Prop} (h : EA K B tA δ (· = ds)) (w : W ds P noR) (hl : ds.length = n := by rfl) : ED K B (tLsG (SpGL K n W) tA) δ (fun d => ∃ es, P es ∧ d = .list es) := fun G H σ Ev Q q => h G H σ Ev _ fun vs es G1 H1 pd m r => by
  subst pd
  have I1 := Ev.iv.at m
  refine ⟨G1, es, P, noR, I1.i0, r, hl, w, fun es' po ys G2 H2 J rd p hp => ?_, fun C ds' fs dd G2 H2 hr _ _ _ => hr.elim⟩
  have M := m.trans (I1.gmP J) Ev.iv
  have m3 := Gm.new (o := .lst ys) (Ev.iv.at M) hp
  exact q (.ref p) (.list es') _ _ ⟨es', po, rfl⟩ (M.trans m3 Ev.iv) (.lst upd_same (rd.mono m3.gg))
theorem ref_lsG {W : WGX} {ds : List PyData} {C : Addr} {fd : List (Str × PyData)} {kk : L2.St → V → Hp → Prop} (h : EA K B tA δ (· = ds)) (w : ∀ R : XR, R C fd → W ds (fun _ => False) R) (hs : PySem.W.subIn K (.ref C) (.type "StopIteration") = some false) (hl : ds.length = n := by rfl) :
    ∀ G H σ (W' : WX), EnvD K B G H σ δ → (∀ fs dd G' H', FsR K G' fs fd → Gm B G H G' H' → XdAt H' dd fs → W' (.ref C) dd σ H') → tLG K (SpGL K n W) W' tA σ H (kk σ) := fun G H σ W' Ev hit => h G H σ Ev _ fun vs es G1 H1 pd mm r => by
  subst pd
  have I1 := Ev.iv.at mm
  exact ⟨G1, es, fun _ => False, fun C' fd' => C' = C ∧ fd' = fd, I1.i0, r, hl, w _ ⟨rfl, rfl⟩, fun d po => po.elim, fun C' ds' fs dd G2 H2 hr hf J hd => by
    obtain ⟨rfl, rfl⟩ := hr
    exact ⟨hit fs dd G2 H2 hf (mm.trans (I1.gmP J) Ev.iv) hd, hs⟩⟩
end
section
variable {P : Program} {w : World} {K : PySem.W.Frag} {mg : Str → Option Value} {base : Heap} {x qual : Str} {st : Stmt} {f : Addr} {fd : FuncData} {N ps : List Str} {k : Nat}
theorem spGL_run {H : Hp} {n : Nat} {vs : List V} {Q : List V → Hp → Prop} {E : XK} {t : XK → TGn} {rt : List V → VK} (h : SpGL K n (wG K t N) vs H Q E) (hl : n ≤ N.length) : t E { nx := fun ys _ H' => Q ys H', rt := rt } [] (L2.start N vs) H := by
  obtain ⟨G, ds, P, R, e, r, l, w, k, kx⟩ := h
  exact w _ E kx G H _ _ [] (env_start (Iv.pure e) r (by omega)) .nil fun δ' es' ys' G' H' σ' q e1 E' r' => k es' q ys' G' H' E'.iv r'
theorem okGL {t : XK → TGn} (F : FnP K x qual st f fd) (S : GScope N ps (defScope st))
    (d : ∀ (cdv : Value) (A : Around) (outer : List Env) (s : Shared) (H : Hp) (E : XK) (pn : List (Addr × Obj)), Room k (A.deeper (envOfC qual (defScope st) s.heap.objs.size f cdv)) → GSs (gcxOf P w K mg base N qual (defScope st) f cdv A outer s H E pn) (defBody st) (t E))
    (hN : ps.length ≤ N.length) : GFn P w K mg base (k + 1) f fd ps (SpGL K ps.length (wG K t N)) := by
  obtain ⟨oc, od, dV, kV, doc, pm, an, cdv, ct, osl, rfl, lk, hcd, _⟩ := F.ex
  exact gfn_of lk hcd S (fun vs H Q E ⟨G, ds, P, R, e, r, l, _⟩ => by rw [r.length, l]) fun A outer s H vs Q E pn hr h => ⟨_, d cdv A outer s H E pn hr, spGL_run h hN⟩
end
section
variable {X : Cx} {x : Str} {k j : Nat} {ps : List Str} {sp : SpG} {p p2 pos pos2 : Pos} {e : Expr} {es : List Expr} {t : TA}
theorem pe_lsG (C : CalGe X.prog X.w X.K X.mg X.base x k ps sp) (hr : Room j X.A) (hj : k + 3 ≤ j) (hgl : Gl X "list") (hml : X.mg "list" = none) (hg : Gl X x) (ha : PA X (e :: es) t)
    (hdb : (x == ("__debug__" : Str)) = false := by decide) (he : starEach (e :: es) X.env = (false, eval e X.env) :: starEach es X.env := by rfl) (hpl : (backTo pos2 (starEach es X.env)).any (·.1) = false := by rfl)
    (he1 : starEach [Expr.Call (.Name x p2) (e :: es) [] pos2] X.env = (false, eval (Expr.Call (.Name x p2) (e :: es) [] pos2) X.env) :: starEach [] X.env := by rfl) :
    PE X (.Call (.Name "list" p) [.Call (.Name x p2) (e :: es) [] pos2] [] pos) (tLsG sp t) := by
  obtain ⟨f, fd, h1, h2, h3, h4⟩ := C.ex
  have h := pgen_call (X := X) (dvs := []) (ds := []) (E := fun _ _ _ => False) (p := p2) (pos' := pos2) h4 (hr.mono (by omega)) hg h1 h2 h3 .nil ha hdb he hpl
  have q := pe_listG (p := p) (pos := pos) h (fun pins σ H s e s' I c => by
    obtain ⟨_, _, _, _, _, _, _, _, _, _, _, _, z⟩ := c
    exact z.elim) (fun _ _ _ z => z.elim) (hr.mono hj) hgl hml (show bootBuiltins ("list" : Str) = some (.type "list") by decide) (by decide) (by decide) he1
  refine ⟨fun pins s σ H Q I h => q.run pins s σ H Q I ?_⟩
  show t σ H fun vs H1 => sp (vs ++ []) H1 _ _
  simp only [List.append_nil]
  exact h
end
end DL
namespace DL
variable [Tb]
open PySem PySem.Spec PyProof.Rows L2 Evl StX
theorem ed_disp1 {K : PySem.W.Frag} {B : Base} {δ : En} {i j : Int} : ED K B (tDisp [(tC (.int i), tC (.int j))]) δ (· = .dict [(.int i, .int j)]) := fun G H σ E Q q p hp => by
  refine ⟨upd_same, [(.inl i, .int j)], rfl, Nat.le_of_ble_eq_true rfl, ?_⟩
  rw [upd_upd, show mergeK [] [(.inl i, .int j)] = [(.inl i, .int j)] from rfl]
  exact q (.ref p) _ _ _ rfl (Gm.new E.iv hp) (.dct upd_same)
end DL
namespace DL
variable [Tb]
open PySem PySem.Spec PyProof.Rows L2 Evl
def tMethUXS (R : Addr → Sp → Prop) (m : Str) (W : L2.St → XK) (ta : TE) (t : TA) : TE := fun σ H Q => ta σ H fun x H1 => ∃ (a C dx : Addr) (fs : List (Str × V)) (sp : Sp), x = .ref a ∧ H1 a = some (.ins C dx fs) ∧ fs.lookup m = none ∧ R C sp ∧ t σ H1 fun vs H2 => sp (.ref a :: (vs ++ [])) H2 Q (W σ)
theorem pe_methUXS {X : Cx} {R : Addr → Sp → Prop} {o e : Expr} {es : List Expr} {ta : TE} {t : TA} {m : Str} {k j : Nat} {ps : List Str} {apos pos : Pos} {W : WX} {pl : Sem Bool} (hR : ∀ C sp, R C sp → CalMX X.prog X.w X.K X.mg X.base C m k ps sp) (he : PE X o ta) (hr : Room j X.A) (hj : k ≤ j) (tk : Takes X W) (ha : PA X (e :: es) t)
    (hst : starEach (e :: es) X.env = (false, eval e X.env) :: starEach es X.env := by rfl) (hpl : (backTo pos (starEach es X.env)).any (·.1) = false := by rfl)
    (ht : eval (.Call (.Attribute o m apos) (e :: es) [] pos) X.env = (do
      let ov ← eval o X.env
      standAt apos.atName; let (f, first) ← holding [ov] (getMethod ov m pl)
      callWith pos f first (backTo pos (starEach (e :: es) X.env)) (backToKw pos (keywordEach [] X.env))) := by rfl) : PE X (.Call (.Attribute o m apos) (e :: es) [] pos) (tMethUXS R m (WE W) ta t) := by
  refine ⟨fun pins s σ H Q I h => PySem.W.methodCall_KW (pl := pl) (thn (he.run pins s σ H _ I h) fun u s1 ⟨x, H1, I1, rx, a, C, dx, fs, sp, ex, ea, l, hC, q⟩ => ?_) ht⟩
  subst ex
  cases (show u = Value.ref a from rx)
  obtain ⟨c, g, fd, hm, hb, F⟩ := hR C sp hC
  refine getmeth_ok I1 ea c hm l (PySem.W.callWith_K (first := [.ref a]) (h₀ := X.base) I.ok.mod.kin hm.kp (thn (ha.run pos pins s1 σ H1 _ I1 q) fun us s2 ⟨vs, H2, I2, r, q2⟩ => ⟨I2.kIn, ?_⟩) hst hpl)
  exact run_fnSD (us := .ref a :: us) (vs := .ref a :: vs) F (hr.mono hj) hb .nil (passAt tk σ) I2 (.cons rfl r) q2
section
variable {K : PySem.W.Frag} {B : Base} {δ : En} {te : TE} {tA : TA} {U : Addr → Sp → Prop} {es : List PyData} {n : Nat}
theorem met_drop {C Ce : Addr} {m : Str} {ns : List Str} {ds : List PyData} {W : WTX} {fd : List (Str × PyData)} (hU : U C (SpWX K n W)) (hm : m ∉ ns) (h : ED K B te δ (· = eIn C ns ds)) (ha : EA K B tA δ (· = es)) (w : ∀ R : XR, R Ce fd → W (eIn C ns ds :: es) (fun _ => False) R) (hl : (eIn C ns ds :: es).length = n := by rfl) :
    ∀ G H σ (D : Ends) (W' : WX), EnvD K B G H σ δ → (∀ fs dd G' H', FsR K G' fs fd → Gm B G H G' H' → XdAt H' dd fs → W' (.ref Ce) dd σ H') → (tDrop (tMethUXS U m (WE W') te tA)) D σ H := fun G H σ D W' Ev hit =>
  h G H σ Ev _ fun v d' G1 H1 e m1 r => by
    subst e
    obtain ⟨a, dx, fs, rfl, hA, hn, rs⟩ := ins_of r
    refine ⟨a, C, dx, fs, _, rfl, m1.gh _ _ hA, lookup_none (by rw [hn]; exact hm), hU, ha G1 H1 σ (Ev.at m1) _ fun vs fs G2 H2 pe m2 rv => ?_⟩
    subst pe
    have I2 := (Ev.at m1).iv.at m2
    have mm := m1.trans m2 Ev.iv
    rw [List.append_nil]
    exact ⟨G2, _, fun _ => False, fun C' fd' => C' = Ce ∧ fd' = fd, I2.i0, .cons (r.mono m2.gg) rv, hl, w _ ⟨rfl, rfl⟩, fun d po => po.elim, fun C ds fs dd G3 H3 hr hf J hd => by
      obtain ⟨rfl, rfl⟩ := hr
      exact hit fs dd G3 H3 hf (mm.trans (I2.gmP J) Ev.iv) hd⟩
end
end DL
namespace PL
open PySem PySem.Spec PyProof.Rows L2 Evl DL
variable [Tb]
abbrev N_is_integer : List Str := ["value"]
def t_is_integer (K : PySem.W.Frag) (a : Ad) (E : XK) : TS :=
  (tRet (tAndV (tCB (rIsi K) (tCons (tVar 0) (tCons (tC (.ty "int")) tNil))) (tNotV (tCB (rIsi K) (tCons (tVar 0) (tCons (tC (.ty "bool")) tNil))))))
def W_is_integer (K : PySem.W.Frag) (a : Ad) : WTX := wX K (t_is_integer K a) N_is_integer
abbrev N_is_row : List Str := ["value"]
def t_is_row (K : PySem.W.Frag) (a : Ad) (E : XK) : TS :=
  (tRet (tCB (rIsiT K) (tCons (tVar 0) (tCons (tTup (tCons (tC (.ty "list")) (tCons (tC (.ty "tuple")) tNil))) tNil))))
def W_is_row (K : PySem.W.Frag) (a : Ad) : WTX := wX K (t_is_row K a) N_is_row
abbrev N_first_wrong : List Str := ["flags", "at", "flag"]
def t_first_wrong (K : PySem.W.Frag) (a : Ad) (E : XK) : TS :=
  (tSeq (tFor (iEnum K (tCons (tVar 0) tNil)) (gTup K 2 (gCons (gName 1) (gCons (gName 2) gNil))) (tIfS (tNot (tB (tVar 2))) (tRet (tVar 1)) tNext))
    (tRet (tC .non)))
def W_first_wrong (K : PySem.W.Frag) (a : Ad) : WTX := wX K (t_first_wrong K a) N_first_wrong
abbrev N_both : List Str := ["one", "other"]
def t_both (K : PySem.W.Frag) (a : Ad) (E : XK) : TS :=
  (tRet (tCB (rTupQ K) (tCons (tW fun _ w => tCB (rSortedSet w) (tCons (tOp (rUnion w) (tCB (rSetI K w) (tCons (tVar 0) tNil)) (tCB (rSetI K w) (tCons (tVar 1) tNil))) tNil)) tNil)))
def W_both (K : PySem.W.Frag) (a : Ad) : WTX := wX K (t_both K a) N_both
abbrev N_common : List Str := ["one", "other", "place"]
def t_common (K : PySem.W.Frag) (a : Ad) (E : XK) : TS :=
  (tRet (tCB (rTupQ K) (tCons (tLc (iList K (tCB (rSortedQ K) (tCons (tVar 0) tNil))) (gName 2) (tTest (tOp (rIn K false) (tVar 2) (tVar 1))) (tVar 2) [2]) tNil)))
def W_common (K : PySem.W.Frag) (a : Ad) : WTX := wX K (t_common K a) N_common
abbrev N_minus : List Str := ["one", "other", "place"]
def t_minus (K : PySem.W.Frag) (a : Ad) (E : XK) : TS :=
  (tRet (tCB (rTupQ K) (tCons (tLc (iList K (tCB (rSortedQ K) (tCons (tVar 0) tNil))) (gName 2) (tTest (tOp (rIn K true) (tVar 2) (tVar 1))) (tVar 2) [2]) tNil)))
def W_minus (K : PySem.W.Frag) (a : Ad) : WTX := wX K (t_minus K a) N_minus
abbrev N_rest : List Str := ["size", "lot", "place"]
def t_rest (K : PySem.W.Frag) (a : Ad) (E : XK) : TS :=
  (tRet (tCB (rTupB K) (tCons (tLc (iRng1 (tCons (tVar 0) tNil)) (gName 2) (tTest (tOp (rIn K true) (tVar 2) (tVar 1))) (tVar 2) [2]) tNil)))
def W_rest (K : PySem.W.Frag) (a : Ad) : WTX := wX K (t_rest K a) N_rest
abbrev N_by_size : List Str := ["lots"]
def t_by_size (K : PySem.W.Frag) (a : Ad) (E : XK) : TS :=
  (tRet (tSortK K a.tP (("by_size" : Str) ++ ".<locals>." ++ "<lambda>") (tVar 0)))
def W_by_size (K : PySem.W.Frag) (a : Ad) : WTX := wX K (t_by_size K a) N_by_size
abbrev N_Net_many : List Str := ["self"]
def t_Net_many (K : PySem.W.Frag) (a : Ad) : TS :=
  (tRet (tCB (rLenQ K) (tCons (tFld K (tVar 0) "ties") tNil)))
def W_Net_many (K : PySem.W.Frag) (a : Ad) : WT := wN K (t_Net_many K a) N_Net_many
def R_many (K : PySem.W.Frag) (a : Ad) (C : Addr) (sp : Sp) : Prop := (C = a.Oneway ∧ sp = (SpW K 1 (W_Net_many K a))) ∨ (C = a.Twoway ∧ sp = (SpW K 1 (W_Net_many K a)))
abbrev N_amount : List Str := ["world", "ties", "tie"]
def t_amount (K : PySem.W.Frag) (a : Ad) (E : XK) : TS :=
  (tRet (tCB (rSum K) (tCons (tLc (iTup K (tVar 1)) (gName 2) tYes (tOp (rIxT K) (tVar 0) (tVar 2)) [2]) tNil)))
def W_amount (K : PySem.W.Frag) (a : Ad) : WTX := wX K (t_amount K a) N_amount
abbrev N_law_draws : List Str := ["_law_script", "_law_draws_here", "_law_at", "_law_cell", "_law_k", "_law_seed"]
def t_law_draws (K : PySem.W.Frag) (a : Ad) : TS :=
  (tSeq (tAsg (tLst (tCons (tC (.int 1)) tNil)) (gName 1))
    (tSeq (tFor (iRng1 (tCons (tCB rMin2 (tCons (tC (.int 63)) (tCons (tCB (rLenQ K) (tCons (tVar 0) tNil)) tNil))) tNil)) (gName 2) (tSeq (tAsg (tCB rInt1 (tCons (tOp (rIxL K) (tVar 0) (tVar 2)) tNil)) (gName 3))
    (tSeq (tIfS (tTest (tOp (rI0 fun i j => .bl (decide (i < j))) (tVar 3) (tC (.int 0)))) (tAsg (tOp (rI0 fun i j => .int (i - j)) (tC (.int 2)) (tVar 3)) (gName 3)) tNext)
    (tIfS (tTest (tOp (rI0 fun i j => .bl (decide (j ≤ i))) (tVar 3) (tOp (rI CPow fun i j => .int (i ^ j.toNat)) (tC (.int 10)) (tC (.int 18))))) (tFor (iRng1 (tCons (tC (.int 60)) tNil)) (gName 4) (tIfS (tTest (tOp (rI0 fun i j => .bl (decide (j < i))) (tVar 3) (tC (.int 0)))) (tSeq (tDrop (tBM K "list" rAppend (tVar 1) (tCons (tOp (rI (fun _ j => 0 < j) fun i j => .int (i % j)) (tCB rInt1 (tCons (tVar 3) tNil)) (tC (.int 24))) tNil)))
    (tAsg (tOp (rI CDiv fun i j => .int (i / j)) (tVar 3) (tC (.int 24))) (gName 3))) tNext)) (tSeq (tAsg (tOp (rI (fun _ j => 0 < j) fun i j => .int (i % j)) (tCB rInt1 (tCons (tOp (rI0 fun i j => .int (i + j)) (tOp (rI0 fun i j => .int (i + j)) (tOp (rI CMul fun i j => .int (i * j)) (tVar 3) (tC (.int 69069))) (tOp (rI CMul fun i j => .int (i * j)) (tVar 2) (tC (.int 362437)))) (tC (.int 12345))) tNil)) (tC (.int 4294967291))) (gName 5))
    (tFor (iRng1 (tCons (tC (.int 5)) tNil)) (gName 4) (tSeq (tAsg (tOp (rI (fun _ j => 0 < j) fun i j => .int (i % j)) (tCB rInt1 (tCons (tOp (rI0 fun i j => .int (i + j)) (tOp (rI0 fun i j => .int (i + j)) (tOp (rI0 fun i j => .int (i + j)) (tOp (rI CMul fun i j => .int (i * j)) (tVar 5) (tVar 5)) (tOp (rI CMul fun i j => .int (i * j)) (tVar 4) (tC (.int 1013904)))) (tOp (rI CMul fun i j => .int (i * j)) (tVar 2) (tC (.int 31)))) (tC (.int 7))) tNil)) (tC (.int 4294967291))) (gName 5))
    (tDrop (tBM K "list" rAppend (tVar 1) (tCons (tOp (rI CDiv fun i j => .int (i / j)) (tVar 5) (tC (.int 16))) tNil))))))))))
    (tRet (tVar 1))))
abbrev N_law_take : List Str := ["_law_draws_here", "_law_many", "_law_at"]
def t_law_take (K : PySem.W.Frag) (a : Ad) : TS :=
  (tSeq (tAsg (tOp (rIxL K) (tVar 0) (tC (.int 0))) (gName 2))
    (tSeq (tIfS (tTest (tOp (rI0 fun i j => .bl (decide (j ≤ i))) (tVar 2) (tCB (rLenQ K) (tCons (tVar 0) tNil)))) (tRet (tC (.int 0))) tNext)
    (tSeq (tAsg (tOp (rI0 fun i j => .int (i + j)) (tVar 2) (tC (.int 1))) (gSub (tVar 0) (tC (.int 0)) rSetL))
    (tRet (tOp (rI (fun _ j => 0 < j) fun i j => .int (i % j)) (tCB rInt1 (tCons (tOp (rIxL K) (tVar 0) (tVar 2)) tNil)) (tVar 1))))))
abbrev N_law_int : List Str := ["_law_value"]
def t_law_int (K : PySem.W.Frag) (a : Ad) : TS :=
  (tRet (tAndV (tCB (rIsi K) (tCons (tVar 0) (tCons (tC (.ty "int")) tNil))) (tNotV (tCB (rIsi K) (tCons (tVar 0) (tCons (tC (.ty "bool")) tNil))))))
def W_law_int (K : PySem.W.Frag) (a : Ad) : WT := wN K (t_law_int K a) N_law_int
abbrev N_law_rest : List Str := ["_law_size", "_law_lot_here", "_law_place"]
def t_law_rest (K : PySem.W.Frag) (a : Ad) : TS :=
  (tRet (tLc (iRng1 (tCons (tVar 0) tNil)) (gName 2) (tTest (tOp (rIn K true) (tVar 2) (tVar 1))) (tVar 2) [2]))
def W_law_rest (K : PySem.W.Frag) (a : Ad) : WT := wN K (t_law_rest K a) N_law_rest
abbrev N_law_amount_between : List Str := ["_law_ties", "_law_world_here", "_law_one", "_law_other", "_law_total", "_law_tie", "_law_first", "_law_second"]
def t_law_amount_between (K : PySem.W.Frag) (a : Ad) : TS :=
  (tSeq (tAsg (tC (.int 0)) (gName 4))
    (tSeq (tFor (iRng1 (tCons (tCB (rLenQ K) (tCons (tVar 0) tNil)) tNil)) (gName 5) (tSeq (tAsg (tOp (rIxT K) (tOp (rIxL K) (tVar 0) (tVar 5)) (tC (.int 0))) (gName 6))
    (tSeq (tAsg (tOp (rIxT K) (tOp (rIxL K) (tVar 0) (tVar 5)) (tC (.int 1))) (gName 7))
    (tIfS (tOr (tAnd (tTest (tOp (rIn K false) (tVar 6) (tVar 2))) (tTest (tOp (rIn K false) (tVar 7) (tVar 3)))) (tAnd (tTest (tOp (rIn K false) (tVar 6) (tVar 3))) (tTest (tOp (rIn K false) (tVar 7) (tVar 2))))) (tAsg (tOp (rI0 fun i j => .int (i + j)) (tVar 4) (tOp (rIxL K) (tVar 1) (tVar 5))) (gName 4)) tNext))))
    (tRet (tVar 4))))
def W_law_amount_between (K : PySem.W.Frag) (a : Ad) : WT := wN K (t_law_amount_between K a) N_law_amount_between
abbrev N_is_index : List Str := ["value", "limit"]
def t_is_index (K : PySem.W.Frag) (a : Ad) (E : XK) : TS :=
  (tRet (tAndV (tCall (SpWX K 1 (W_is_integer K a)) [] E (tCons (tVar 0) tNil)) (tChain (rI0 fun i j => .bl (decide (i ≤ j))) (rI0 fun i j => .bl (decide (i < j))) (tC (.int 0)) (tVar 0) (tVar 1))))
def W_is_index (K : PySem.W.Frag) (a : Ad) : WTX := wX K (t_is_index K a) N_is_index
abbrev N_wrong_member : List Str := ["limit", "members", "at", "member"]
def t_wrong_member (K : PySem.W.Frag) (a : Ad) (E : XK) : TS :=
  (tSeq (tIfS (tNot (tB (tCall (SpWX K 1 (W_is_row K a)) [] E (tCons (tVar 1) tNil)))) (tRet (tUn (rU fun i => .int (-i)) (tC (.int 1)))) tNext)
    (tSeq (tFor (iEnumS K (tCons (tVar 1) tNil)) (gTup K 2 (gCons (gName 2) (gCons (gName 3) gNil))) (tSeq (tIfS (tOr (tNot (tB (tCall (SpWX K 1 (W_is_integer K a)) [] E (tCons (tVar 3) tNil)))) (tOr (tTest (tOp (rI0 fun i j => .bl (decide (i < j))) (tVar 3) (tC (.int 0)))) (tTest (tOp (rIn K false) (tVar 3) (tSl (rSlS K) (tVar 1) tNoPart (tPart (tVar 2))))))) (tRet (tVar 2)) tNext)
    (tIfS (tAnd (tTest (tOp rNotNQ (tVar 0) (tC .non))) (tTest (tOp (rI0 fun i j => .bl (decide (j ≤ i))) (tVar 3) (tVar 0)))) (tRet (tVar 2)) tNext)))
    (tRet (tC .non))))
def W_wrong_member (K : PySem.W.Frag) (a : Ad) : WTX := wX K (t_wrong_member K a) N_wrong_member
abbrev N_lots_inside : List Str := ["inner", "outer", "found", "place", "lot"]
def t_lots_inside (K : PySem.W.Frag) (a : Ad) (E : XK) : TS :=
  (tSeq (tAsg (tLst (tCons (tVar 0) tNil)) (gName 2))
    (tSeq (tFor (iTup K (tCall (SpWX K 2 (W_minus K a)) [] E (tCons (tVar 1) (tCons (tVar 0) tNil)))) (gName 3) (tAsg (tOp rCat (tVar 2) (tLc (iList K (tVar 2)) (gName 4) tYes (tCall (SpWX K 2 (W_both K a)) [] E0 (tCons (tVar 4) (tCons (tTup (tCons (tVar 3) tNil)) tNil))) [4])) (gName 2)))
    (tRet (tCall (SpWX K 1 (W_by_size K a)) [] E (tCons (tVar 2) tNil)))))
def W_lots_inside (K : PySem.W.Frag) (a : Ad) : WTX := wX K (t_lots_inside K a) N_lots_inside
abbrev N_law_lot_ok : List Str := ["_law_value", "_law_size", "_law_before", "_law_place"]
def t_law_lot_ok (K : PySem.W.Frag) (a : Ad) : TS :=
  (tSeq (tIfS (tNot (tB (tCB (rIsi K) (tCons (tVar 0) (tCons (tC (.ty "tuple")) tNil))))) (tRet (tC (.bl false))) tNext)
    (tSeq (tAsg (tUn (rU fun i => .int (-i)) (tC (.int 1))) (gName 2))
    (tSeq (tFor (iTup K (tVar 0)) (gName 3) (tSeq (tIfS (tOr (tNot (tB (tCall (SpW K 1 (W_law_int K a)) [] E0 (tCons (tVar 3) tNil)))) (tOr (tTest (tOp (rI0 fun i j => .bl (decide (i ≤ j))) (tVar 3) (tVar 2))) (tTest (tOp (rI0 fun i j => .bl (decide (j ≤ i))) (tVar 3) (tVar 1))))) (tRet (tC (.bl false))) tNext)
    (tAsg (tVar 3) (gName 2))))
    (tRet (tC (.bl true))))))
def W_law_lot_ok (K : PySem.W.Frag) (a : Ad) : WT := wN K (t_law_lot_ok K a) N_law_lot_ok
abbrev N_law_told_net : List Str := ["_law_draws_here", "_law_menu"]
def t_law_told_net (K : PySem.W.Frag) (a : Ad) : TS :=
  (tSeq (tAsg (tLst (tCons (tLst (tCons (tC (.int 3)) (tCons (tLst (tCons (tTup (tCons (tC (.int 0)) (tCons (tC (.int 1)) tNil))) (tCons (tTup (tCons (tC (.int 1)) (tCons (tC (.int 2)) tNil))) (tCons (tTup (tCons (tC (.int 0)) (tCons (tC (.int 2)) tNil))) tNil)))) tNil))) (tCons (tLst (tCons (tC (.int 5)) (tCons (tLst (tCons (tTup (tCons (tC (.int 0)) (tCons (tC (.int 1)) tNil))) (tCons (tTup (tCons (tC (.int 0)) (tCons (tC (.int 2)) tNil))) (tCons (tTup (tCons (tC (.int 1)) (tCons (tC (.int 3)) tNil))) (tCons (tTup (tCons (tC (.int 2)) (tCons (tC (.int 3)) tNil))) (tCons (tTup (tCons (tC (.int 3)) (tCons (tC (.int 4)) tNil))) tNil)))))) tNil))) tNil))) (gName 1))
    (tSeq (tDrop (tBM K "list" rAppend (tVar 1) (tCons (tLst (tCons (tC (.int 4)) (tCons (tLst (tCons (tTup (tCons (tC (.int 0)) (tCons (tC (.int 1)) tNil))) (tCons (tTup (tCons (tC (.int 1)) (tCons (tC (.int 2)) tNil))) (tCons (tTup (tCons (tC (.int 0)) (tCons (tC (.int 2)) tNil))) (tCons (tTup (tCons (tC (.int 0)) (tCons (tC (.int 3)) tNil))) (tCons (tTup (tCons (tC (.int 1)) (tCons (tC (.int 3)) tNil))) (tCons (tTup (tCons (tC (.int 2)) (tCons (tC (.int 3)) tNil))) tNil))))))) tNil))) tNil)))
    (tSeq (tDrop (tBM K "list" rAppend (tVar 1) (tCons (tLst (tCons (tC (.int 5)) (tCons (tLst (tCons (tTup (tCons (tC (.int 0)) (tCons (tC (.int 1)) tNil))) (tCons (tTup (tCons (tC (.int 1)) (tCons (tC (.int 2)) tNil))) (tCons (tTup (tCons (tC (.int 0)) (tCons (tC (.int 2)) tNil))) (tCons (tTup (tCons (tC (.int 2)) (tCons (tC (.int 3)) tNil))) (tCons (tTup (tCons (tC (.int 3)) (tCons (tC (.int 4)) tNil))) (tCons (tTup (tCons (tC (.int 2)) (tCons (tC (.int 4)) tNil))) tNil))))))) tNil))) tNil)))
    (tSeq (tDrop (tBM K "list" rAppend (tVar 1) (tCons (tLst (tCons (tC (.int 4)) (tCons (tLst (tCons (tTup (tCons (tC (.int 0)) (tCons (tC (.int 3)) tNil))) (tCons (tTup (tCons (tC (.int 1)) (tCons (tC (.int 3)) tNil))) (tCons (tTup (tCons (tC (.int 2)) (tCons (tC (.int 3)) tNil))) tNil)))) tNil))) tNil)))
    (tSeq (tDrop (tBM K "list" rAppend (tVar 1) (tCons (tLst (tCons (tC (.int 4)) (tCons (tLst (tCons (tTup (tCons (tC (.int 0)) (tCons (tC (.int 1)) tNil))) (tCons (tTup (tCons (tC (.int 1)) (tCons (tC (.int 2)) tNil))) (tCons (tTup (tCons (tC (.int 2)) (tCons (tC (.int 3)) tNil))) (tCons (tTup (tCons (tC (.int 0)) (tCons (tC (.int 3)) tNil))) tNil))))) tNil))) tNil)))
    (tRet (tOp (rIxL K) (tVar 1) (tCall (SpTake K) [] E0 (tCons (tVar 0) (tCons (tC (.int 6)) tNil))))))))))
def W_law_told_net (K : PySem.W.Frag) (a : Ad) : WT := wD K (t_law_told_net K a) N_law_told_net
abbrev N_law_free_ties : List Str := ["_law_draws_here", "_law_size", "_law_many", "_law_ties", "_law_k", "_law_first"]
def t_law_free_ties (K : PySem.W.Frag) (a : Ad) : TS :=
  (tSeq (tAsg (tLst tNil) (gName 3))
    (tSeq (tFor (iRng1 (tCons (tVar 2) tNil)) (gName 4) (tSeq (tAsg (tCall (SpTake K) [] E0 (tCons (tVar 0) (tCons (tVar 1) tNil))) (gName 5))
    (tDrop (tBM K "list" rAppend (tVar 3) (tCons (tTup (tCons (tVar 5) (tCons (tCall (SpTake K) [] E0 (tCons (tVar 0) (tCons (tVar 1) tNil))) tNil))) tNil)))))
    (tRet (tVar 3))))
def t0_law_free_ties (K : PySem.W.Frag) (a : Ad) : TS := tSeq (tAsg (tLst tNil) (gName 3)) (tFor (iRng1 (tCons (tVar 2) tNil)) (gName 4) (tSeq (tAsg (tCall (SpTake K) [] E0 (tCons (tVar 0) (tCons (tVar 1) tNil))) (gName 5))
    (tDrop (tBM K "list" rAppend (tVar 3) (tCons (tTup (tCons (tVar 5) (tCons (tCall (SpTake K) [] E0 (tCons (tVar 0) (tCons (tVar 1) tNil))) tNil))) tNil)))))
abbrev i_law_free_ties : Nat := 3
def W_law_free_ties (K : PySem.W.Frag) (a : Ad) : WL := wDL K (t0_law_free_ties K a) N_law_free_ties i_law_free_ties
abbrev N_law_kind : List Str := ["_law_draws_here"]
def t_law_kind (K : PySem.W.Frag) (a : Ad) : TS :=
  (tSeq (tIfS (tTest (tOp rEq (tCall (SpTake K) [] E0 (tCons (tVar 0) (tCons (tC (.int 3)) tNil))) (tC (.int 2)))) (tRet (tC (.str "oneway"))) tNext)
    (tRet (tC (.str "twoway"))))
def W_law_kind (K : PySem.W.Frag) (a : Ad) : WT := wD K (t_law_kind K a) N_law_kind
abbrev N_law_world : List Str := ["_law_draws_here", "_law_many", "_law_word", "_law_world_here", "_law_at", "_law_k", "_law_entry"]
def t_law_world (K : PySem.W.Frag) (a : Ad) : TS :=
  (tSeq (tAsg (tCall (SpTake K) [] E0 (tCons (tVar 0) (tCons (tC (.int 10)) tNil))) (gName 2))
    (tSeq (tAsg (tLc (iRng1 (tCons (tVar 1) tNil)) (gName 5) tYes (tCall (SpTake K) [] E0 (tCons (tVar 0) (tCons (tC (.int 10)) tNil))) [5]) (gName 3))
    (tSeq (tIfS (tTest (tOp (rIn K false) (tVar 2) (tTup (tCons (tC (.int 7)) (tCons (tC (.int 8)) tNil))))) (tAsg (tLc (iList K (tVar 3)) (gName 6) tYes (tOp (rI CDiv fun i j => .int (i / j)) (tVar 6) (tC (.int 5))) [6]) (gName 3)) tNext)
    (tSeq (tIfS (tAnd (tTest (tOp rEq (tVar 2) (tC (.int 9)))) (tTest (tOp (rI0 fun i j => .bl (decide (j < i))) (tVar 1) (tC (.int 0))))) (tSeq (tAsg (tCall (SpTake K) [] E0 (tCons (tVar 0) (tCons (tVar 1) tNil))) (gName 4))
    (tAsg (tOp (rI0 fun i j => .int (i + j)) (tOp (rIxL K) (tLst (tCons (tOp (rI CPow fun i j => .int (i ^ j.toNat)) (tC (.int 10)) (tC (.int 12))) (tCons (tOp (rI CPow fun i j => .int (i ^ j.toNat)) (tC (.int 10)) (tC (.int 12))) (tCons (tOp (rI CPow fun i j => .int (i ^ j.toNat)) (tC (.int 10)) (tC (.int 28))) (tCons (tC (.int 40)) tNil))))) (tCall (SpTake K) [] E0 (tCons (tVar 0) (tCons (tC (.int 4)) tNil)))) (tOp (rIxL K) (tVar 3) (tVar 4))) (gSub (tVar 3) (tVar 4) rSetL))) tNext)
    (tRet (tVar 3))))))
def W_law_world (K : PySem.W.Frag) (a : Ad) : WT := wD K (t_law_world K a) N_law_world
abbrev N_law_lot : List Str := ["_law_draws_here", "_law_size", "_law_place"]
def t_law_lot (K : PySem.W.Frag) (a : Ad) : TS :=
  (tRet (tLc (iRng1 (tCons (tVar 1) tNil)) (gName 2) (tTest (tOp rEq (tCall (SpTake K) [] E0 (tCons (tVar 0) (tCons (tC (.int 2)) tNil))) (tC (.int 1)))) (tVar 2) [2]))
def W_law_lot (K : PySem.W.Frag) (a : Ad) : WT := wD K (t_law_lot K a) N_law_lot
abbrev N_law_handed : List Str := ["_law_draws_here", "_law_lot_here", "_law_row", "_law_cut"]
def t_law_handed (K : PySem.W.Frag) (a : Ad) : TS :=
  (tSeq (tAsg (tCB (rListQ K) (tCons (tVar 1) tNil)) (gName 2))
    (tSeq (tIfS (tTest (tOp (rI0 fun i j => .bl (decide (j < i))) (tCB (rLenQ K) (tCons (tVar 2) tNil)) (tC (.int 1)))) (tSeq (tAsg (tCall (SpTake K) [] E0 (tCons (tVar 0) (tCons (tCB (rLenQ K) (tCons (tVar 2) tNil)) tNil))) (gName 3))
    (tAsg (tOp rCat (tSl (rSlL K) (tVar 2) (tPart (tVar 3)) tNoPart) (tSl (rSlL K) (tVar 2) tNoPart (tPart (tVar 3)))) (gName 2))) tNext)
    (tSeq (tIfS (tTest (tOp rEq (tCall (SpTake K) [] E0 (tCons (tVar 0) (tCons (tC (.int 2)) tNil))) (tC (.int 1)))) (tAsg (tRevL K (tVar 2)) (gName 2)) tNext)
    (tSeq (tIfS (tTest (tOp rEq (tCall (SpTake K) [] E0 (tCons (tVar 0) (tCons (tC (.int 2)) tNil))) (tC (.int 1)))) (tRet (tCB (rTupQ K) (tCons (tVar 2) tNil))) tNext)
    (tRet (tVar 2))))))
def W_law_handed (K : PySem.W.Frag) (a : Ad) : WT := wD K (t_law_handed K a) N_law_handed
abbrev N_law_bad_lot : List Str := ["_law_draws_here", "_law_good", "_law_size", "_law_word", "_law_at", "_law_bad", "_law_lot_here"]
def t_law_bad_lot (K : PySem.W.Frag) (a : Ad) : TS :=
  (tSeq (tAsg (tCall (SpTake K) [] E0 (tCons (tVar 0) (tCons (tC (.int 9)) tNil))) (gName 3))
    (tSeq (tIfS (tTest (tOp rEq (tVar 3) (tC (.int 8)))) (tRet (tLst (tCons (tOp (rIxL K) (tLst (tCons (tC .non) (tCons (tC (.int 3)) (tCons (tC (.str "012")) (tCons (tDisp [((tC (.int 0)), (tC (.int 1)))]) tNil))))) (tCall (SpTake K) [] E0 (tCons (tVar 0) (tCons (tC (.int 4)) tNil)))) (tCons (tOp (rI0 fun i j => .int (i - j)) (tC (.int 0)) (tC (.int 1))) tNil)))) tNext)
    (tSeq (tAsg (tCall (SpTake K) [] E0 (tCons (tVar 0) (tCons (tOp (rI0 fun i j => .int (i + j)) (tCB (rLenQ K) (tCons (tVar 1) tNil)) (tC (.int 1))) tNil))) (gName 4))
    (tSeq (tAsg (tOp (rIxL K) (tLst (tCons (tVar 2) (tCons (tOp (rI0 fun i j => .int (i - j)) (tC (.int 0)) (tC (.int 1))) (tCons (tC .non) (tCons (tC (.bl true)) (tCons (tC (.str "0")) (tCons (tOp (rI0 fun i j => .int (i + j)) (tVar 2) (tC (.int 7))) (tCons (tOp (rI0 fun i j => .int (i - j)) (tC (.int 0)) (tC (.int 2))) (tCons (tLst (tCons (tC (.int 0)) tNil)) tNil))))))))) (tVar 3)) (gName 5))
    (tSeq (tIfS (tAnd (tTest (tOp (rI0 fun i j => .bl (decide (j < i))) (tVar 3) (tC (.int 3)))) (tTest (tOp (rI0 fun i j => .bl (decide (j < i))) (tVar 4) (tC (.int 0))))) (tAsg (tOp (rIxL K) (tVar 1) (tCall (SpTake K) [] E0 (tCons (tVar 0) (tCons (tVar 4) tNil)))) (gName 5)) tNext)
    (tSeq (tAsg (tOp rCat (tOp rCat (tSl (rSlL K) (tVar 1) tNoPart (tPart (tVar 4))) (tLst (tCons (tVar 5) tNil))) (tSl (rSlL K) (tVar 1) (tPart (tVar 4)) tNoPart)) (gName 6))
    (tSeq (tIfS (tTest (tOp rEq (tCall (SpTake K) [] E0 (tCons (tVar 0) (tCons (tC (.int 2)) tNil))) (tC (.int 1)))) (tDrop (tBM K "list" rAppend (tVar 6) (tCons (tOp (rI0 fun i j => .int (i - j)) (tC (.int 0)) (tC (.int 1))) tNil))) tNext)
    (tSeq (tIfS (tTest (tOp rEq (tCall (SpTake K) [] E0 (tCons (tVar 0) (tCons (tC (.int 2)) tNil))) (tC (.int 1)))) (tAsg (tCB (rTupQ K) (tCons (tVar 6) tNil)) (gName 6)) tNext)
    (tRet (tLst (tCons (tVar 6) (tCons (tVar 4) tNil))))))))))))
def W_law_bad_lot (K : PySem.W.Frag) (a : Ad) : WT := wD K (t_law_bad_lot K a) N_law_bad_lot
abbrev N_law_bad_world : List Str := ["_law_draws_here", "_law_world_here", "_law_word", "_law_at", "_law_rows", "_law_later"]
def t_law_bad_world (K : PySem.W.Frag) (a : Ad) : TS :=
  (tSeq (tAsg (tCall (SpTake K) [] E0 (tCons (tVar 0) (tCons (tC (.int 6)) tNil))) (gName 2))
    (tSeq (tIfS (tOr (tTest (tOp rEq (tVar 2) (tC (.int 5)))) (tTest (tOp rEq (tCB (rLenQ K) (tCons (tVar 1) tNil)) (tC (.int 0))))) (tRet (tLst (tCons (tOp (rIxL K) (tLst (tCons (tC .non) (tCons (tOp rCat (tCB (rListQ K) (tCons (tVar 1) tNil)) (tLst (tCons (tC (.int 0)) tNil))) (tCons (tC (.str "1")) (tCons (tC (.int 7)) tNil))))) (tCall (SpTake K) [] E0 (tCons (tVar 0) (tCons (tC (.int 4)) tNil)))) (tCons (tOp (rI0 fun i j => .int (i - j)) (tC (.int 0)) (tC (.int 1))) tNil)))) tNext)
    (tSeq (tIfS (tTest (tOp rEq (tVar 2) (tC (.int 4)))) (tRet (tLst (tCons (tSl (rSlL K) (tCB (rListQ K) (tCons (tVar 1) tNil)) (tPart (tC (.int 1))) tNoPart) (tCons (tOp (rI0 fun i j => .int (i - j)) (tC (.int 0)) (tC (.int 1))) tNil)))) tNext)
    (tSeq (tAsg (tCall (SpTake K) [] E0 (tCons (tVar 0) (tCons (tCB (rLenQ K) (tCons (tVar 1) tNil)) tNil))) (gName 3))
    (tSeq (tAsg (tCB (rListQ K) (tCons (tVar 1) tNil)) (gName 4))
    (tSeq (tAsg (tOp (rIxL K) (tLst (tCons (tOp (rI0 fun i j => .int (i - j)) (tC (.int 0)) (tC (.int 1))) (tCons (tC .non) (tCons (tC (.bl true)) (tCons (tC (.str "1")) tNil))))) (tVar 2)) (gSub (tVar 4) (tVar 3) rSetL))
    (tSeq (tIfS (tTest (tOp rEq (tCall (SpTake K) [] E0 (tCons (tVar 0) (tCons (tC (.int 2)) tNil))) (tC (.int 1)))) (tFor (iRng2 (tCons (tOp (rI0 fun i j => .int (i + j)) (tVar 3) (tC (.int 1))) (tCons (tCB (rLenQ K) (tCons (tVar 4) tNil)) tNil))) (gName 5) (tAsg (tOp (rI0 fun i j => .int (i - j)) (tC (.int 0)) (tC (.int 5))) (gSub (tVar 4) (tVar 5) rSetL))) tNext)
    (tRet (tLst (tCons (tVar 4) (tCons (tVar 3) tNil)))))))))))
def W_law_bad_world (K : PySem.W.Frag) (a : Ad) : WT := wD K (t_law_bad_world K a) N_law_bad_world
abbrev N_is_pair : List Str := ["size", "value", "place"]
def t_is_pair (K : PySem.W.Frag) (a : Ad) (E : XK) : TS :=
  (tRet (tAndV (tCall (SpWX K 1 (W_is_row K a)) [] E (tCons (tVar 1) tNil)) (tAndV (tOp rEq (tCB (rLenQ K) (tCons (tVar 1) tNil)) (tC (.int 2))) (tCB (rAll K) (tCons (tLc (iTup K (tVar 1)) (gName 2) tYes (tCall (SpWX K 2 (W_is_index K a)) [] E0 (tCons (tVar 2) (tCons (tVar 0) tNil))) [2]) tNil)))))
def W_is_pair (K : PySem.W.Frag) (a : Ad) : WTX := wX K (t_is_pair K a) N_is_pair
abbrev N_good_size : List Str := ["size"]
def t_good_size (K : PySem.W.Frag) (a : Ad) (E : XK) : TS :=
  (tSeq (tIfS (tOr (tNot (tB (tCall (SpWX K 1 (W_is_integer K a)) [] E (tCons (tVar 0) tNil)))) (tNot (tTest (tChain (rI0 fun i j => .bl (decide (i ≤ j))) (rI0 fun i j => .bl (decide (i ≤ j))) (tC (.int 1)) (tVar 0) (tC (.int 12)))))) (tRz (a.er "BadNumber") (a.ec "BadNumber") "name" (tCons (tC (.str "size")) tNil) E) tNext)
    (tRet (tVar 0)))
def W_good_size (K : PySem.W.Frag) (a : Ad) : WTX := wX K (t_good_size K a) N_good_size
abbrev N_good_lot : List Str := ["size", "lot", "wrong"]
def t_good_lot (K : PySem.W.Frag) (a : Ad) (E : XK) : TS :=
  (tSeq (tAsg (tCall (SpWX K 2 (W_wrong_member K a)) [] E (tCons (tVar 0) (tCons (tVar 1) tNil))) (gName 2))
    (tSeq (tIfS (tTest (tOp rNotNQ (tVar 2) (tC .non))) (tRz (a.er "BadLot") (a.ec "BadLot") "at" (tCons (tVar 2) tNil) E) tNext)
    (tRet (tCB (rTupQ K) (tCons (tCB (rSortedQ K) (tCons (tVar 1) tNil)) tNil)))))
def W_good_lot (K : PySem.W.Frag) (a : Ad) : WTX := wX K (t_good_lot K a) N_good_lot
abbrev N_good_world : List Str := ["many", "world", "wrong", "amount"]
def t_good_world (K : PySem.W.Frag) (a : Ad) (E : XK) : TS :=
  (tSeq (tIfS (tOr (tNot (tB (tCall (SpWX K 1 (W_is_row K a)) [] E (tCons (tVar 1) tNil)))) (tAnd (tTest (tOp rNotNQ (tVar 0) (tC .non))) (tTest (tOp rNe (tCB (rLenQ K) (tCons (tVar 1) tNil)) (tVar 0))))) (tRz (a.er "BadWorld") (a.ec "BadWorld") "at" (tCons (tUn (rU fun i => .int (-i)) (tC (.int 1))) tNil) E) tNext)
    (tSeq (tAsg (tCall (SpWX K 1 (W_first_wrong K a)) [] E (tCons (tLc (iSeq K (tVar 1)) (gName 3) tYes (tAndV (tCall (SpWX K 1 (W_is_integer K a)) [] E0 (tCons (tVar 3) tNil)) (tOp (rI0 fun i j => .bl (decide (j ≤ i))) (tVar 3) (tC (.int 0)))) [3]) tNil)) (gName 2))
    (tSeq (tIfS (tTest (tOp rNotNQ (tVar 2) (tC .non))) (tRz (a.er "BadWorld") (a.ec "BadWorld") "at" (tCons (tVar 2) tNil) E) tNext)
    (tRet (tCB (rTupQ K) (tCons (tVar 1) tNil))))))
def W_good_world (K : PySem.W.Frag) (a : Ad) : WTX := wX K (t_good_world K a) N_good_world
abbrev N_need_apart : List Str := ["one", "other", "place"]
def t_need_apart (K : PySem.W.Frag) (a : Ad) (E : XK) : TS :=
  (tFor (iTup K (tVar 0)) (gName 2) (tIfS (tTest (tOp (rIn K false) (tVar 2) (tVar 1))) (tRz (a.er "Meeting") (a.ec "Meeting") "place" (tCons (tVar 2) tNil) E) tNext))
def W_need_apart (K : PySem.W.Frag) (a : Ad) : WTX := wX K (t_need_apart K a) N_need_apart
abbrev N_need_inside : List Str := ["inner", "outer", "place"]
def t_need_inside (K : PySem.W.Frag) (a : Ad) (E : XK) : TS :=
  (tFor (iTup K (tVar 0)) (gName 2) (tIfS (tTest (tOp (rIn K true) (tVar 2) (tVar 1))) (tRz (a.er "NotInside") (a.ec "NotInside") "place" (tCons (tVar 2) tNil) E) tNext))
def W_need_inside (K : PySem.W.Frag) (a : Ad) : WTX := wX K (t_need_inside K a) N_need_inside
abbrev N_need_listed : List Str := ["size", "most"]
def t_need_listed (K : PySem.W.Frag) (a : Ad) (E : XK) : TS :=
  (tIfS (tTest (tOp (rI0 fun i j => .bl (decide (j < i))) (tVar 0) (tVar 1))) (tRz (a.er "TooMany") (a.ec "TooMany") "size" (tCons (tVar 0) tNil) E) tNext)
def W_need_listed (K : PySem.W.Frag) (a : Ad) : WTX := wX K (t_need_listed K a) N_need_listed
abbrev N_check_twoway : List Str := ["net"]
def t_check_twoway (K : PySem.W.Frag) (a : Ad) (E : XK) : TS :=
  (tIfS (tTest (tOp rNe (tCon K (tVar 0) "KIND") (tC (.str "twoway")))) (tRz0 (a.er "NotTwoway") (a.ec "NotTwoway") E) tNext)
def W_check_twoway (K : PySem.W.Frag) (a : Ad) : WTX := wX K (t_check_twoway K a) N_check_twoway
abbrev N_law_net : List Str := ["_law_draws_here", "_law_most", "_law_word", "_law_size", "_law_ties", "_law_place", "_law_other", "_law_told", "_law_ringed", "_law_double", "_law_turn", "_law_tie", "_law_k"]
def t_law_net (K : PySem.W.Frag) (a : Ad) : TS :=
  (tSeq (tAsg (tCall (SpTake K) [] E0 (tCons (tVar 0) (tCons (tC (.int 8)) tNil))) (gName 2))
    (tSeq (tAsg (tOp (rIxL K) (tLst (tCons (tC (.int 3)) (tCons (tC (.int 2)) (tCons (tC (.int 4)) (tCons (tC (.int 5)) (tCons (tC (.int 3)) (tCons (tC (.int 4)) (tCons (tC (.int 5)) (tCons (tC (.int 4)) (tCons (tC (.int 6)) (tCons (tC (.int 3)) (tCons (tC (.int 4)) (tCons (tC (.int 5)) tNil))))))))))))) (tCall (SpTake K) [] E0 (tCons (tVar 0) (tCons (tC (.int 12)) tNil)))) (gName 3))
    (tSeq (tIfS (tTest (tOp (rI0 fun i j => .bl (decide (i ≤ j))) (tVar 2) (tC (.int 3)))) (tSeq (tAsg (tLst tNil) (gName 4))
    (tSeq (tFor (iRng2 (tCons (tC (.int 1)) (tCons (tVar 3) tNil))) (gName 5) (tSeq (tAsg (tCall (SpTake K) [] E0 (tCons (tVar 0) (tCons (tVar 5) tNil))) (gName 6))
    (tIfS (tTest (tOp rEq (tCall (SpTake K) [] E0 (tCons (tVar 0) (tCons (tC (.int 2)) tNil))) (tC (.int 1)))) (tDrop (tBM K "list" rAppend (tVar 4) (tCons (tTup (tCons (tVar 5) (tCons (tVar 6) tNil))) tNil))) (tDrop (tBM K "list" rAppend (tVar 4) (tCons (tTup (tCons (tVar 6) (tCons (tVar 5) tNil))) tNil))))))
    (tAsg (tOp rCat (tVar 4) (tCall (SpWDL K 2 (W_law_free_ties K a)) [] E0 (tCons (tVar 0) (tCons (tVar 3) (tCons (tCall (SpTake K) [] E0 (tCons (tVar 0) (tCons (tC (.int 6)) tNil))) tNil))))) (gName 4)))) (tIfS (tTest (tOp (rI0 fun i j => .bl (decide (i ≤ j))) (tVar 2) (tC (.int 5)))) (tSeq (tAsg (tCall (SpWD K 0 (W_law_told_net K a)) [] E0 (tCons (tVar 0) tNil)) (gName 7))
    (tSeq (tAsg (tOp (rIxL K) (tVar 7) (tC (.int 0))) (gName 3))
    (tAsg (tOp rCat (tCB (rListQ K) (tCons (tOp (rIxL K) (tVar 7) (tC (.int 1))) tNil)) (tCall (SpWDL K 2 (W_law_free_ties K a)) [] E0 (tCons (tVar 0) (tCons (tVar 3) (tCons (tCall (SpTake K) [] E0 (tCons (tVar 0) (tCons (tC (.int 2)) tNil))) tNil))))) (gName 4)))) (tIfS (tTest (tOp rEq (tVar 2) (tC (.int 6)))) (tSeq (tAsg (tOp (rI0 fun i j => .int (i + j)) (tC (.int 3)) (tCall (SpTake K) [] E0 (tCons (tVar 0) (tCons (tC (.int 3)) tNil)))) (gName 8))
    (tSeq (tAsg (tOp (rI0 fun i j => .int (i + j)) (tVar 8) (tCall (SpTake K) [] E0 (tCons (tVar 0) (tCons (tC (.int 2)) tNil)))) (gName 3))
    (tSeq (tAsg (tLc (iRng1 (tCons (tVar 8) tNil)) (gName 12) tYes (tTup (tCons (tVar 12) (tCons (tOp (rI (fun _ j => 0 < j) fun i j => .int (i % j)) (tCB rInt1 (tCons (tOp (rI0 fun i j => .int (i + j)) (tVar 12) (tC (.int 1))) tNil)) (tVar 8)) tNil))) [12]) (gName 4))
    (tAsg (tOp rCat (tVar 4) (tCall (SpWDL K 2 (W_law_free_ties K a)) [] E0 (tCons (tVar 0) (tCons (tVar 3) (tCons (tCall (SpTake K) [] E0 (tCons (tVar 0) (tCons (tC (.int 3)) tNil))) tNil))))) (gName 4))))) (tSeq (tIfS (tTest (tOp rEq (tCall (SpTake K) [] E0 (tCons (tVar 0) (tCons (tC (.int 6)) tNil))) (tC (.int 5)))) (tAsg (tC (.int 1)) (gName 3)) tNext)
    (tAsg (tCall (SpWDL K 2 (W_law_free_ties K a)) [] E0 (tCons (tVar 0) (tCons (tVar 3) (tCons (tCall (SpTake K) [] E0 (tCons (tVar 0) (tCons (tC (.int 10)) tNil))) tNil)))) (gName 4))))))
    (tSeq (tIfS (tAnd (tTest (tOp (rI0 fun i j => .bl (decide (j < i))) (tCB (rLenQ K) (tCons (tVar 4) tNil)) (tC (.int 0)))) (tTest (tOp rEq (tCall (SpTake K) [] E0 (tCons (tVar 0) (tCons (tC (.int 8)) tNil))) (tC (.int 7))))) (tSeq (tAsg (tOp (rIxL K) (tVar 4) (tCall (SpTake K) [] E0 (tCons (tVar 0) (tCons (tCB (rLenQ K) (tCons (tVar 4) tNil)) tNil)))) (gName 9))
    (tDrop (tBM K "list" rAppend (tVar 4) (tCons (tTup (tCons (tOp (rIxT K) (tVar 9) (tC (.int 1))) (tCons (tOp (rIxT K) (tVar 9) (tC (.int 0))) tNil))) tNil)))) tNext)
    (tSeq (tAsg (tCall (SpTake K) [] E0 (tCons (tVar 0) (tCons (tVar 3) tNil))) (gName 10))
    (tSeq (tAsg (tLc (iList K (tVar 4)) (gName 11) tYes (tTup (tCons (tOp (rI (fun _ j => 0 < j) fun i j => .int (i % j)) (tCB rInt1 (tCons (tOp (rI0 fun i j => .int (i + j)) (tOp (rIxT K) (tVar 11) (tC (.int 0))) (tVar 10)) tNil)) (tVar 3)) (tCons (tOp (rI (fun _ j => 0 < j) fun i j => .int (i % j)) (tCB rInt1 (tCons (tOp (rI0 fun i j => .int (i + j)) (tOp (rIxT K) (tVar 11) (tC (.int 1))) (tVar 10)) tNil)) (tVar 3)) tNil))) [11]) (gName 4))
    (tRet (tLst (tCons (tVar 3) (tCons (tSl (rSlL K) (tVar 4) tNoPart (tPart (tVar 1))) tNil))))))))))
def W_law_net (K : PySem.W.Frag) (a : Ad) : WT := wD K (t_law_net K a) N_law_net
abbrev N_lot_of : List Str := ["size", "places"]
def t_lot_of (K : PySem.W.Frag) (a : Ad) (E : XK) : TS :=
  (tRet (tCall (SpWX K 2 (W_good_lot K a)) [] E (tCons (tCall (SpWX K 1 (W_good_size K a)) [] E (tCons (tVar 0) tNil)) (tCons (tVar 1) tNil))))
def W_lot_of (K : PySem.W.Frag) (a : Ad) : WTX := wX K (t_lot_of K a) N_lot_of
abbrev N_lots_between : List Str := ["inner", "outer", "inner_lot", "outer_lot", "lot"]
def t_lots_between (K : PySem.W.Frag) (a : Ad) (E : XK) : TGn :=
  (tGThen (tPlain (tAsg (tCall (SpWX K 2 (W_good_lot K a)) [] E (tCons (tC .non) (tCons (tVar 0) tNil))) (gName 2)))
    (tGThen (tPlain (tAsg (tCall (SpWX K 2 (W_good_lot K a)) [] E (tCons (tC .non) (tCons (tVar 1) tNil))) (gName 3)))
    (tGThen (tPlain (tDrop (tCall (SpWX K 2 (W_need_inside K a)) [] E (tCons (tVar 2) (tCons (tVar 3) tNil)))))
    (tGThen (tPlain (tDrop (tCall (SpWX K 2 (W_need_listed K a)) [.int 8] E (tCons (tCB (rLenQ K) (tCons (tVar 3) tNil)) tNil))))
    (tGThen (tGFor (iList K (tCall (SpWX K 2 (W_lots_inside K a)) [] E (tCons (tVar 2) (tCons (tVar 3) tNil)))) (gName 4) (tGThen (tGYield (tVar 4)) tG0)) tG0)))))
def W_lots_between (K : PySem.W.Frag) (a : Ad) : WGX := wG K (t_lots_between K a) N_lots_between
abbrev N_corners : List Str := ["size", "one", "other", "one_lot", "other_lot", "outside"]
def t_corners (K : PySem.W.Frag) (a : Ad) (E : XK) : TS :=
  (tSeq (tDrop (tCall (SpWX K 1 (W_good_size K a)) [] E (tCons (tVar 0) tNil)))
    (tSeq (tAsg (tCall (SpWX K 2 (W_good_lot K a)) [] E (tCons (tVar 0) (tCons (tVar 1) tNil))) (gName 3))
    (tSeq (tAsg (tCall (SpWX K 2 (W_good_lot K a)) [] E (tCons (tVar 0) (tCons (tVar 2) tNil))) (gName 4))
    (tSeq (tAsg (tCall (SpWX K 2 (W_rest K a)) [] E (tCons (tVar 0) (tCons (tCall (SpWX K 2 (W_both K a)) [] E (tCons (tVar 3) (tCons (tVar 4) tNil))) tNil))) (gName 5))
    (tRet (tTup (tCons (tCall (SpWX K 2 (W_common K a)) [] E (tCons (tVar 3) (tCons (tVar 4) tNil))) (tCons (tCall (SpWX K 2 (W_minus K a)) [] E (tCons (tVar 3) (tCons (tVar 4) tNil))) (tCons (tCall (SpWX K 2 (W_minus K a)) [] E (tCons (tVar 4) (tCons (tVar 3) tNil))) (tCons (tVar 5) tNil))))))))))
def W_corners (K : PySem.W.Frag) (a : Ad) : WTX := wX K (t_corners K a) N_corners
abbrev N_Net_gates : List Str := ["self", "lot", "places", "tie", "a", "b"]
def t_Net_gates (K : PySem.W.Frag) (a : Ad) (E : XK) : TS :=
  (tSeq (tAsg (tCall (SpWX K 2 (W_good_lot K a)) [] E (tCons (tFld K (tVar 0) "size") (tCons (tVar 1) tNil))) (gName 2))
    (tRet (tCB (rTupQ K) (tCons (tLc (iEnumT K (tCons (tFld K (tVar 0) "ties") tNil)) (gTup K 2 (gCons (gName 3) (gCons (gTup K 2 (gCons (gName 4) (gCons (gName 5) gNil))) gNil))) (tAnd (tTest (tOp (rIn K false) (tVar 4) (tVar 2))) (tTest (tOp (rIn K true) (tVar 5) (tVar 2)))) (tVar 3) [3, 4, 5]) tNil))))
def W_Net_gates (K : PySem.W.Frag) (a : Ad) : WTX := wX K (t_Net_gates K a) N_Net_gates
abbrev N_Net_inner : List Str := ["self", "lot", "places", "tie", "a", "b"]
def t_Net_inner (K : PySem.W.Frag) (a : Ad) (E : XK) : TS :=
  (tSeq (tAsg (tCall (SpWX K 2 (W_good_lot K a)) [] E (tCons (tFld K (tVar 0) "size") (tCons (tVar 1) tNil))) (gName 2))
    (tRet (tCB (rTupQ K) (tCons (tLc (iEnumT K (tCons (tFld K (tVar 0) "ties") tNil)) (gTup K 2 (gCons (gName 3) (gCons (gTup K 2 (gCons (gName 4) (gCons (gName 5) gNil))) gNil))) (tAnd (tTest (tOp (rIn K false) (tVar 4) (tVar 2))) (tTest (tOp (rIn K false) (tVar 5) (tVar 2)))) (tVar 3) [3, 4, 5]) tNil))))
def W_Net_inner (K : PySem.W.Frag) (a : Ad) : WTX := wX K (t_Net_inner K a) N_Net_inner
def R_inner (K : PySem.W.Frag) (a : Ad) (C : Addr) (sp : Sp) : Prop := (C = a.Oneway ∧ sp = (SpWX K 2 (W_Net_inner K a))) ∨ (C = a.Twoway ∧ sp = (SpWX K 2 (W_Net_inner K a)))
abbrev N_Net_between : List Str := ["self", "one", "other", "here", "there", "tie", "a", "b"]
def t_Net_between (K : PySem.W.Frag) (a : Ad) (E : XK) : TS :=
  (tSeq (tAsg (tCall (SpWX K 2 (W_good_lot K a)) [] E (tCons (tFld K (tVar 0) "size") (tCons (tVar 1) tNil))) (gName 3))
    (tSeq (tAsg (tCall (SpWX K 2 (W_good_lot K a)) [] E (tCons (tFld K (tVar 0) "size") (tCons (tVar 2) tNil))) (gName 4))
    (tSeq (tDrop (tCall (SpWX K 2 (W_need_apart K a)) [] E (tCons (tVar 3) (tCons (tVar 4) tNil))))
    (tRet (tCB (rTupQ K) (tCons (tLc (iEnumT K (tCons (tFld K (tVar 0) "ties") tNil)) (gTup K 2 (gCons (gName 5) (gCons (gTup K 2 (gCons (gName 6) (gCons (gName 7) gNil))) gNil))) (tOr (tAnd (tTest (tOp (rIn K false) (tVar 6) (tVar 3))) (tTest (tOp (rIn K false) (tVar 7) (tVar 4)))) (tAnd (tTest (tOp (rIn K false) (tVar 6) (tVar 4))) (tTest (tOp (rIn K false) (tVar 7) (tVar 3))))) (tVar 5) [5, 6, 7]) tNil))))))
def W_Net_between (K : PySem.W.Frag) (a : Ad) : WTX := wX K (t_Net_between K a) N_Net_between
def R_between (K : PySem.W.Frag) (a : Ad) (C : Addr) (sp : Sp) : Prop := (C = a.Oneway ∧ sp = (SpWX K 3 (W_Net_between K a))) ∨ (C = a.Twoway ∧ sp = (SpWX K 3 (W_Net_between K a)))
abbrev N_Twoway_gates : List Str := ["self", "lot", "places", "tie", "a", "b"]
def t_Twoway_gates (K : PySem.W.Frag) (a : Ad) (E : XK) : TS :=
  (tSeq (tAsg (tCall (SpWX K 2 (W_good_lot K a)) [] E (tCons (tFld K (tVar 0) "size") (tCons (tVar 1) tNil))) (gName 2))
    (tRet (tCB (rTupQ K) (tCons (tLc (iEnumT K (tCons (tFld K (tVar 0) "ties") tNil)) (gTup K 2 (gCons (gName 3) (gCons (gTup K 2 (gCons (gName 4) (gCons (gName 5) gNil))) gNil))) (tTest (tOp rNe (tOp (rIn K false) (tVar 4) (tVar 2)) (tOp (rIn K false) (tVar 5) (tVar 2)))) (tVar 3) [3, 4, 5]) tNil))))
def W_Twoway_gates (K : PySem.W.Frag) (a : Ad) : WTX := wX K (t_Twoway_gates K a) N_Twoway_gates
def R_gates (K : PySem.W.Frag) (a : Ad) (C : Addr) (sp : Sp) : Prop := (C = a.Oneway ∧ sp = (SpWX K 2 (W_Net_gates K a))) ∨ (C = a.Twoway ∧ sp = (SpWX K 2 (W_Twoway_gates K a)))
abbrev N_good_ends : List Str := ["size", "ties", "at", "pair"]
def t_good_ends (K : PySem.W.Frag) (a : Ad) (E : XK) : TS :=
  (tSeq (tIfS (tOr (tNot (tB (tCall (SpWX K 1 (W_is_row K a)) [] E (tCons (tVar 1) tNil)))) (tTest (tOp (rI0 fun i j => .bl (decide (j < i))) (tCB (rLenQ K) (tCons (tVar 1) tNil)) (tC (.int 40))))) (tRz (a.er "BadNet") (a.ec "BadNet") "at" (tCons (tUn (rU fun i => .int (-i)) (tC (.int 1))) tNil) E) tNext)
    (tSeq (tFor (iEnum K (tCons (tVar 1) tNil)) (gTup K 2 (gCons (gName 2) (gCons (gName 3) gNil))) (tIfS (tNot (tB (tCall (SpWX K 2 (W_is_pair K a)) [] E (tCons (tVar 0) (tCons (tVar 3) tNil))))) (tRz (a.er "BadNet") (a.ec "BadNet") "at" (tCons (tVar 2) tNil) E) tNext))
    (tRet (tCB (rTupQ K) (tCons (tLc (iList K (tVar 1)) (gName 3) tYes (tCB (rTupQ K) (tCons (tVar 3) tNil)) [3]) tNil)))))
def W_good_ends (K : PySem.W.Frag) (a : Ad) : WTX := wX K (t_good_ends K a) N_good_ends
abbrev N_world_of : List Str := ["net", "world"]
def t_world_of (K : PySem.W.Frag) (a : Ad) (E : XK) : TS :=
  (tRet (tCall (SpWX K 2 (W_good_world K a)) [] E (tCons (tPropU (R_many K a) (tVar 0)) (tCons (tVar 1) tNil))))
def W_world_of (K : PySem.W.Frag) (a : Ad) : WTX := wX K (t_world_of K a) N_world_of
abbrev N_law_any_net : List Str := ["_law_draws_here", "_law_small", "_law_size"]
def t_law_any_net (K : PySem.W.Frag) (a : Ad) : TS :=
  (tSeq (tAsg (tCall (SpWD K 1 (W_law_net K a)) [] E0 (tCons (tVar 0) (tCons (tC (.int 12)) tNil))) (gName 1))
    (tSeq (tIfS (tTest (tOp rEq (tCall (SpTake K) [] E0 (tCons (tVar 0) (tCons (tC (.int 10)) tNil))) (tC (.int 9)))) (tSeq (tAsg (tOp (rI0 fun i j => .int (i + j)) (tC (.int 9)) (tCall (SpTake K) [] E0 (tCons (tVar 0) (tCons (tC (.int 4)) tNil)))) (gName 2))
    (tRet (tLst (tCons (tVar 2) (tCons (tCall (SpWDL K 2 (W_law_free_ties K a)) [] E0 (tCons (tVar 0) (tCons (tVar 2) (tCons (tCall (SpTake K) [] E0 (tCons (tVar 0) (tCons (tC (.int 9)) tNil))) tNil)))) tNil))))) tNext)
    (tRet (tVar 1))))
def W_law_any_net (K : PySem.W.Frag) (a : Ad) : WT := wD K (t_law_any_net K a) N_law_any_net
abbrev N_law_twoway_told : List Str := ["_law_net_here", "_law_found", "error"]
def t_law_twoway_told (K : PySem.W.Frag) (a : Ad) : TS :=
  (tSeq (tAsg (tC .non) (gName 1))
    (tSeq (fun D σ H => (fun W : WX => (tAsg (tCallS (SpWX K 1 (W_check_twoway K a)) (WE W) (tCons (tVar 0) tNil)) (gName 1))) (wNm K (fun _ _ _ _ => False) D [⟨.ref (a.ec "NotTwoway"), 2, fun ea cls d => (tAsg (tCB (rIsEx K ea cls d) (tCons (tVar 2) (tCons (tC (.ref (a.ec "GatesError"))) tNil))) (gName 1))⟩]) D σ H)
    (tRet (tVar 1))))
def W_law_twoway_told (K : PySem.W.Frag) (a : Ad) : WT := wN K (t_law_twoway_told K a) N_law_twoway_told
abbrev N_crosses : List Str := ["size", "one", "other", "corner"]
def t_crosses (K : PySem.W.Frag) (a : Ad) (E : XK) : TS :=
  (tRet (tCB (rAll K) (tCons (tLc (iTup K (tCall (SpWX K 3 (W_corners K a)) [] E (tCons (tVar 0) (tCons (tVar 1) (tCons (tVar 2) tNil))))) (gName 3) tYes (tOp (rI0 fun i j => .bl (decide (j < i))) (tCB (rLenQ K) (tCons (tVar 3) tNil)) (tC (.int 0))) [3]) tNil)))
def W_crosses (K : PySem.W.Frag) (a : Ad) : WTX := wX K (t_crosses K a) N_crosses
abbrev N_Net__init_ : List Str := ["self", "size", "ties"]
def t_Net__init_ (K : PySem.W.Frag) (a : Ad) (E : XK) : TS :=
  (tSeq (sFld K (tVar 0) (tCall (SpWX K 1 (W_good_size K a)) [] E (tCons (tVar 1) tNil)) "size")
    (sFld K (tVar 0) (tCall (SpWX K 2 (W_good_ends K a)) [] E (tCons (tVar 1) (tCons (tVar 2) tNil))) "ties"))
abbrev N_cost : List Str := ["net", "world", "lot", "capacities"]
def t_cost (K : PySem.W.Frag) (a : Ad) (E : XK) : TS :=
  (tSeq (tAsg (tCall (SpWX K 2 (W_world_of K a)) [] E (tCons (tVar 0) (tCons (tVar 1) tNil))) (gName 3))
    (tRet (tCall (SpWX K 2 (W_amount K a)) [] E (tCons (tVar 3) (tCons (tMethUX (R_gates K a) "gates" E (tVar 0) (tCons (tVar 2) tNil)) tNil)))))
def W_cost (K : PySem.W.Frag) (a : Ad) : WTX := wX K (t_cost K a) N_cost
abbrev N_costs_less : List Str := ["net", "world", "plus", "less", "here", "lot"]
def t_costs_less (K : PySem.W.Frag) (a : Ad) (E : XK) : TS :=
  (tSeq (tAsg (tCB (rSum K) (tCons (tLc (iTup K (tVar 2)) (gName 5) tYes (tCall (SpWX K 3 (W_cost K a)) [] E0 (tCons (tVar 0) (tCons (tVar 1) (tCons (tVar 5) tNil)))) [5]) tNil)) (gName 4))
    (tRet (tOp (rI0 fun i j => .int (i - j)) (tVar 4) (tCB (rSum K) (tCons (tLc (iTup K (tVar 3)) (gName 5) tYes (tCall (SpWX K 3 (W_cost K a)) [] E0 (tCons (tVar 0) (tCons (tVar 1) (tCons (tVar 5) tNil)))) [5]) tNil)))))
def W_costs_less (K : PySem.W.Frag) (a : Ad) : WTX := wX K (t_costs_less K a) N_costs_less
abbrev N_law_four : List Str := ["_law_draws_here", "_law_net_here", "_law_world_here", "_law_one", "_law_other", "_law_inside", "_law_whole", "_law_two", "_law_place"]
def t_law_four (K : PySem.W.Frag) (a : Ad) : TS :=
  (tSeq (tAsg (tLc (iList K (tVar 3)) (gName 8) (tTest (tOp (rIn K false) (tVar 8) (tVar 4))) (tVar 8) [8]) (gName 5))
    (tSeq (tAsg (tLc (iRng1 (tCons (tFld K (tVar 1) "size") tNil)) (gName 8) (tOr (tTest (tOp (rIn K false) (tVar 8) (tVar 3))) (tTest (tOp (rIn K false) (tVar 8) (tVar 4)))) (tVar 8) [8]) (gName 6))
    (tSeq (tAsg (tOp (rI0 fun i j => .int (i + j)) (tCall (SpWX K 3 (W_cost K a)) [] E0 (tCons (tVar 1) (tCons (tVar 2) (tCons (tCall (SpWD K 1 (W_law_handed K a)) [] E0 (tCons (tVar 0) (tCons (tVar 3) tNil))) tNil)))) (tCall (SpWX K 3 (W_cost K a)) [] E0 (tCons (tVar 1) (tCons (tVar 2) (tCons (tCall (SpWD K 1 (W_law_handed K a)) [] E0 (tCons (tVar 0) (tCons (tVar 4) tNil))) tNil))))) (gName 7))
    (tRet (tOp (rI0 fun i j => .int (i - j)) (tOp (rI0 fun i j => .int (i - j)) (tVar 7) (tCall (SpWX K 3 (W_cost K a)) [] E0 (tCons (tVar 1) (tCons (tVar 2) (tCons (tVar 5) tNil))))) (tCall (SpWX K 3 (W_cost K a)) [] E0 (tCons (tVar 1) (tCons (tVar 2) (tCons (tVar 6) tNil)))))))))
def W_law_four (K : PySem.W.Frag) (a : Ad) : WT := wD K (t_law_four K a) N_law_four
abbrev N_law_corners_right : List Str := ["_law_draws_here", "_law_size", "_law_one", "_law_other", "_law_got", "_law_back", "_law_across", "_law_lot_here"]
def t_law_corners_right (K : PySem.W.Frag) (a : Ad) : TS :=
  (tSeq (tAsg (tCall (SpWX K 3 (W_corners K a)) [] E0 (tCons (tVar 1) (tCons (tCall (SpWD K 1 (W_law_handed K a)) [] E0 (tCons (tVar 0) (tCons (tVar 2) tNil))) (tCons (tVar 3) tNil)))) (gName 4))
    (tSeq (tAsg (tCall (SpWX K 3 (W_corners K a)) [] E0 (tCons (tVar 1) (tCons (tCall (SpWD K 1 (W_law_handed K a)) [] E0 (tCons (tVar 0) (tCons (tCall (SpW K 2 (W_law_rest K a)) [] E0 (tCons (tVar 1) (tCons (tVar 2) tNil))) tNil))) (tCons (tVar 3) tNil)))) (gName 5))
    (tSeq (tIfS (tOr (tNot (tB (tCB (rIsi K) (tCons (tVar 4) (tCons (tC (.ty "tuple")) tNil))))) (tOr (tTest (tOp rNe (tCB (rLenQ K) (tCons (tVar 4) tNil)) (tC (.int 4)))) (tNot (tB (tCB (rAll K) (tCons (tLc (iTup K (tVar 4)) (gName 7) tYes (tCall (SpW K 2 (W_law_lot_ok K a)) [] E0 (tCons (tVar 7) (tCons (tVar 1) tNil))) [7]) tNil)))))) (tRet (tC (.bl false))) tNext)
    (tSeq (tIfS (tOr (tTest (tOp (rNeD K) (tVar 5) (tTup (tCons (tOp (rIxT K) (tVar 4) (tC (.int 2))) (tCons (tOp (rIxT K) (tVar 4) (tC (.int 3))) (tCons (tOp (rIxT K) (tVar 4) (tC (.int 0))) (tCons (tOp (rIxT K) (tVar 4) (tC (.int 1))) tNil))))))) (tTest (tOp rNe (tCB (rSum K) (tCons (tLc (iTup K (tVar 4)) (gName 7) tYes (tCB (rLenQ K) (tCons (tVar 7) tNil)) [7]) tNil)) (tVar 1)))) (tRet (tC (.bl false))) tNext)
    (tSeq (tAsg (tCall (SpWX K 3 (W_crosses K a)) [] E0 (tCons (tVar 1) (tCons (tVar 2) (tCons (tVar 3) tNil)))) (gName 6))
    (tSeq (tIfS (tOr (tNot (tB (tCB (rIsi K) (tCons (tVar 6) (tCons (tC (.ty "bool")) tNil))))) (tTest (tOp rNe (tVar 6) (tCB (rAll K) (tCons (tLc (iTup K (tVar 4)) (gName 7) tYes (tOp (rI0 fun i j => .bl (decide (j < i))) (tCB (rLenQ K) (tCons (tVar 7) tNil)) (tC (.int 0))) [7]) tNil))))) (tRet (tC (.bl false))) tNext)
    (tRet (tAndV (tOp rEq (tCall (SpWX K 3 (W_crosses K a)) [] E0 (tCons (tVar 1) (tCons (tCall (SpW K 2 (W_law_rest K a)) [] E0 (tCons (tVar 1) (tCons (tVar 2) tNil))) (tCons (tVar 3) tNil)))) (tVar 6)) (tOp rEq (tCall (SpWX K 3 (W_crosses K a)) [] E0 (tCons (tVar 1) (tCons (tVar 3) (tCons (tVar 2) tNil)))) (tVar 6))))))))))
def W_law_corners_right (K : PySem.W.Frag) (a : Ad) : WT := wD K (t_law_corners_right K a) N_law_corners_right
abbrev N_spared : List Str := ["net", "world", "one", "other", "capacities", "one_lot", "other_lot", "corner_lots"]
def t_spared (K : PySem.W.Frag) (a : Ad) (E : XK) : TS :=
  (tSeq (tAsg (tCall (SpWX K 2 (W_world_of K a)) [] E (tCons (tVar 0) (tCons (tVar 1) tNil))) (gName 4))
    (tSeq (tAsg (tCall (SpWX K 2 (W_good_lot K a)) [] E (tCons (tFld K (tVar 0) "size") (tCons (tVar 2) tNil))) (gName 5))
    (tSeq (tAsg (tCall (SpWX K 2 (W_good_lot K a)) [] E (tCons (tFld K (tVar 0) "size") (tCons (tVar 3) tNil))) (gName 6))
    (tSeq (tAsg (tTup (tCons (tCall (SpWX K 2 (W_common K a)) [] E (tCons (tVar 5) (tCons (tVar 6) tNil))) (tCons (tCall (SpWX K 2 (W_both K a)) [] E (tCons (tVar 5) (tCons (tVar 6) tNil))) tNil))) (gName 7))
    (tRet (tCall (SpWX K 4 (W_costs_less K a)) [] E (tCons (tVar 0) (tCons (tVar 4) (tCons (tTup (tCons (tVar 5) (tCons (tVar 6) tNil))) (tCons (tVar 7) tNil))))))))))
def W_spared (K : PySem.W.Frag) (a : Ad) : WTX := wX K (t_spared K a) N_spared
abbrev N_spared_apart : List Str := ["net", "world", "one", "other", "capacities", "one_lot", "other_lot", "corner_lots"]
def t_spared_apart (K : PySem.W.Frag) (a : Ad) (E : XK) : TS :=
  (tSeq (tDrop (tCall (SpWX K 1 (W_check_twoway K a)) [] E (tCons (tVar 0) tNil)))
    (tSeq (tAsg (tCall (SpWX K 2 (W_world_of K a)) [] E (tCons (tVar 0) (tCons (tVar 1) tNil))) (gName 4))
    (tSeq (tAsg (tCall (SpWX K 2 (W_good_lot K a)) [] E (tCons (tFld K (tVar 0) "size") (tCons (tVar 2) tNil))) (gName 5))
    (tSeq (tAsg (tCall (SpWX K 2 (W_good_lot K a)) [] E (tCons (tFld K (tVar 0) "size") (tCons (tVar 3) tNil))) (gName 6))
    (tSeq (tAsg (tTup (tCons (tCall (SpWX K 2 (W_minus K a)) [] E (tCons (tVar 5) (tCons (tVar 6) tNil))) (tCons (tCall (SpWX K 2 (W_minus K a)) [] E (tCons (tVar 6) (tCons (tVar 5) tNil))) tNil))) (gName 7))
    (tRet (tCall (SpWX K 4 (W_costs_less K a)) [] E (tCons (tVar 0) (tCons (tVar 4) (tCons (tTup (tCons (tVar 5) (tCons (tVar 6) tNil))) (tCons (tVar 7) tNil)))))))))))
def W_spared_apart (K : PySem.W.Frag) (a : Ad) : WTX := wX K (t_spared_apart K a) N_spared_apart
abbrev N_law_built : List Str := ["_law_kind_here", "_law_size", "_law_ties"]
def t_law_built (K : PySem.W.Frag) (a : Ad) : TS :=
  (tSeq (tIfS (tTest (tOp rEq (tVar 0) (tC (.str "oneway")))) (tRet (tMake a.Oneway (spInit K a.Oneway) [] E0 (tCons (tVar 1) (tCons (tVar 2) tNil)))) tNext)
    (tRet (tMake a.Twoway (spInit K a.Twoway) [] E0 (tCons (tVar 1) (tCons (tVar 2) tNil)))))
def W_law_built (K : PySem.W.Frag) (a : Ad) : WT := wN K (t_law_built K a) N_law_built
abbrev N_law_lot_door : List Str := ["_law_word", "_law_net_here", "_law_world_here", "_law_lot_here", "_law_found", "error"]
def t_law_lot_door (K : PySem.W.Frag) (a : Ad) : TS :=
  (tSeq (tAsg (tC .non) (gName 4))
    (tSeq (fun D σ H => (fun W : WX => (tIfS (tTest (tOp rEq (tVar 0) (tC (.int 0)))) (tDrop (tCallS (SpWX K 2 (W_lot_of K a)) (WE W) (tCons (tFld K (tVar 1) "size") (tCons (tVar 3) tNil)))) (tIfS (tTest (tOp rEq (tVar 0) (tC (.int 1)))) (tDrop (tMethUXS (R_gates K a) "gates" (WE W) (tVar 1) (tCons (tVar 3) tNil))) (tIfS (tTest (tOp rEq (tVar 0) (tC (.int 2)))) (tDrop (tMethUXS (R_inner K a) "inner" (WE W) (tVar 1) (tCons (tVar 3) tNil))) (tIfS (tTest (tOp rEq (tVar 0) (tC (.int 3)))) (tDrop (tMethUXS (R_between K a) "between" (WE W) (tVar 1) (tCons (tVar 3) (tCons (tLst (tCons (tC (.int 0)) (tCons (tC (.int 0)) tNil))) tNil)))) (tIfS (tTest (tOp rEq (tVar 0) (tC (.int 4)))) (tDrop (tMethUXS (R_between K a) "between" (WE W) (tVar 1) (tCons (tLst tNil) (tCons (tVar 3) tNil)))) (tIfS (tTest (tOp rEq (tVar 0) (tC (.int 5)))) (tDrop (tCallS (SpWX K 3 (W_cost K a)) (WE W) (tCons (tVar 1) (tCons (tVar 2) (tCons (tVar 3) tNil))))) (tIfS (tTest (tOp rEq (tVar 0) (tC (.int 6)))) (tDrop (tCallS (SpWX K 3 (W_corners K a)) (WE W) (tCons (tFld K (tVar 1) "size") (tCons (tVar 3) (tCons (tLst (tCons (tC (.int 0)) (tCons (tC (.int 0)) tNil))) tNil))))) (tIfS (tTest (tOp rEq (tVar 0) (tC (.int 7)))) (tDrop (tCallS (SpWX K 3 (W_crosses K a)) (WE W) (tCons (tFld K (tVar 1) "size") (tCons (tLst (tCons (tC (.int 0)) tNil)) (tCons (tVar 3) tNil))))) (tIfS (tTest (tOp rEq (tVar 0) (tC (.int 8)))) (tDrop (tCallS (SpWX K 4 (W_spared K a)) (WE W) (tCons (tVar 1) (tCons (tVar 2) (tCons (tVar 3) (tCons (tLst (tCons (tC (.int 0)) (tCons (tC (.int 0)) tNil))) tNil)))))) (tDrop (tCallS (SpWX K 4 (W_spared K a)) (WE W) (tCons (tVar 1) (tCons (tVar 2) (tCons (tLst (tCons (tC (.int 0)) tNil)) (tCons (tVar 3) tNil)))))))))))))))) (wNm K (fun _ _ _ _ => False) D [⟨.ref (a.ec "BadLot"), 5, fun ea cls d => (tAsg (tLst (tCons (tXf ea cls d (a.ec "BadLot") "at" (tVar 5)) (tCons (tCB (rIsEx K ea cls d) (tCons (tVar 5) (tCons (tC (.ref (a.ec "GatesError"))) tNil))) (tCons (tCB (rIsEdT K ea cls d) (tCons (tVar 5) (tCons (tTup (tCons (tC (.ref (a.ec "BadNet"))) (tCons (tC (.ref (a.ec "BadNumber"))) (tCons (tC (.ref (a.ec "BadPlace"))) (tCons (tC (.ref (a.ec "BadTie"))) tNil))))) tNil))) tNil)))) (gName 4))⟩]) D σ H)
    (tRet (tVar 4))))
def W_law_lot_door (K : PySem.W.Frag) (a : Ad) : WT := wN K (t_law_lot_door K a) N_law_lot_door
abbrev N_law_world_told : List Str := ["_law_word", "_law_net_here", "_law_world_here", "_law_lot_here", "_law_found", "error"]
def t_law_world_told (K : PySem.W.Frag) (a : Ad) : TS :=
  (tSeq (tAsg (tC .non) (gName 4))
    (tSeq (fun D σ H => (fun W : WX => (tIfS (tTest (tOp rEq (tVar 0) (tC (.int 0)))) (tDrop (tCallS (SpWX K 4 (W_spared K a)) (WE W) (tCons (tVar 1) (tCons (tVar 2) (tCons (tVar 3) (tCons (tVar 3) tNil)))))) (tIfS (tTest (tOp rEq (tVar 0) (tC (.int 1)))) (tDrop (tCallS (SpWX K 3 (W_cost K a)) (WE W) (tCons (tVar 1) (tCons (tVar 2) (tCons (tVar 3) tNil))))) (tDrop (tCallS (SpWX K 2 (W_world_of K a)) (WE W) (tCons (tVar 1) (tCons (tVar 2) tNil))))))) (wNm K (fun _ _ _ _ => False) D [⟨.ref (a.ec "BadWorld"), 5, fun ea cls d => (tAsg (tLst (tCons (tXf ea cls d (a.ec "BadWorld") "at" (tVar 5)) (tCons (tCB (rIsEx K ea cls d) (tCons (tVar 5) (tCons (tC (.ty "ValueError")) tNil))) (tCons (tCB (rIsEdT K ea cls d) (tCons (tVar 5) (tCons (tTup (tCons (tC (.ref (a.ec "BadLot"))) (tCons (tC (.ref (a.ec "BadNet"))) tNil))) tNil))) tNil)))) (gName 4))⟩]) D σ H)
    (tRet (tVar 4))))
def W_law_world_told (K : PySem.W.Frag) (a : Ad) : WT := wN K (t_law_world_told K a) N_law_world_told
abbrev N_law_apart_told : List Str := ["_law_net_here", "_law_world_here", "_law_one", "_law_other", "_law_found", "error", "refused", "_law_spoilt"]
def t_law_apart_told (K : PySem.W.Frag) (a : Ad) : TS :=
  (tSeq (tAsg (tC .non) (gName 4))
    (tSeq (fun D σ H => (fun W : WX => (tDrop (tCallS (SpWX K 4 (W_spared_apart K a)) (WE W) (tCons (tVar 0) (tCons (tVar 1) (tCons (tVar 2) (tCons (tVar 3) tNil))))))) (wNm K (fun _ _ _ _ => False) D [⟨.ref (a.ec "NotTwoway"), 5, fun ea cls d => (tAsg (tLst (tCons (tCB (rIsEx K ea cls d) (tCons (tVar 5) (tCons (tC (.ref (a.ec "GatesError"))) tNil))) (tCons (tCB (rIsEx K ea cls d) (tCons (tVar 5) (tCons (tC (.ref (a.ec "OtherKind"))) tNil))) tNil))) (gName 4))⟩, ⟨.ref (a.ec "BadLot"), 6, fun ea cls d => (tAsg (tXf ea cls d (a.ec "BadLot") "at" (tVar 6)) (gName 4))⟩, ⟨.ref (a.ec "BadWorld"), 7, fun ea cls d => (tAsg (tTup (tCons (tC (.str "world")) (tCons (tXf ea cls d (a.ec "BadWorld") "at" (tVar 7)) tNil))) (gName 4))⟩]) D σ H)
    (tRet (tVar 4))))
def W_law_apart_told (K : PySem.W.Frag) (a : Ad) : WT := wN K (t_law_apart_told K a) N_law_apart_told
abbrev N_law_listed_told : List Str := ["_law_inner", "_law_outer", "_law_found", "error", "_law_outside", "_law_many"]
def t_law_listed_told (K : PySem.W.Frag) (a : Ad) : TS :=
  (tSeq (tAsg (tC .non) (gName 2))
    (tSeq (fun D σ H => (fun W : WX => (tDrop (tLG K (SpGL K 2 (W_lots_between K a)) W (tCons (tVar 0) (tCons (tVar 1) tNil))))) (wNm K (fun _ _ _ _ => False) D [⟨.ref (a.ec "BadLot"), 3, fun ea cls d => (tAsg (tXf ea cls d (a.ec "BadLot") "at" (tVar 3)) (gName 2))⟩, ⟨.ref (a.ec "NotInside"), 4, fun ea cls d => (tAsg (tLst (tCons (tC (.str "inside")) (tCons (tXf ea cls d (a.ec "NotInside") "place" (tVar 4)) tNil))) (gName 2))⟩, ⟨.ref (a.ec "TooMany"), 5, fun ea cls d => (tAsg (tLst (tCons (tC (.str "many")) (tCons (tXf ea cls d (a.ec "TooMany") "size" (tVar 5)) tNil))) (gName 2))⟩]) D σ H)
    (tRet (tVar 2))))
def W_law_listed_told (K : PySem.W.Frag) (a : Ad) : WT := wN K (t_law_listed_told K a) N_law_listed_told
abbrev N_law_listed_right : List Str := ["_law_size", "_law_due"]
def t_law_listed_right (K : PySem.W.Frag) (a : Ad) : TS :=
  (tSeq (tIfS (tOr (tTest (tOp (rNeD K) (tCall (SpW K 2 (W_law_listed_told K a)) [] E0 (tCons (tLst (tCons (tC (.int 0)) (tCons (tC (.int 0)) tNil))) (tCons (tC .non) tNil))) (tC (.int 1)))) (tOr (tTest (tOp (rNeD K) (tCall (SpW K 2 (W_law_listed_told K a)) [] E0 (tCons (tTup tNil) (tCons (tLst (tCons (tC (.int 0)) (tCons (tOp (rI0 fun i j => .int (i - j)) (tC (.int 0)) (tC (.int 1))) tNil))) tNil))) (tC (.int 1)))) (tTest (tOp (rNeD K) (tCall (SpW K 2 (W_law_listed_told K a)) [] E0 (tCons (tTup tNil) (tCons (tC .non) tNil))) (tOp (rI0 fun i j => .int (i - j)) (tC (.int 0)) (tC (.int 1))))))) (tRet (tC (.bl false))) tNext)
    (tSeq (tIfS (tOr (tTest (tOp (rNeD K) (tCall (SpW K 2 (W_law_listed_told K a)) [] E0 (tCons (tLst tNil) (tCons (tLst (tCons (tC (.bl true)) tNil)) tNil))) (tC (.int 0)))) (tTest (tOp (rNeD K) (tCall (SpW K 2 (W_law_listed_told K a)) [] E0 (tCons (tTup (tCons (tVar 0) (tCons (tC (.str "0")) tNil))) (tCons (tLst (tCons (tC (.int 0)) tNil)) tNil))) (tC (.int 1))))) (tRet (tC (.bl false))) tNext)
    (tSeq (tIfS (tOr (tTest (tOp (rNeD K) (tCall (SpW K 2 (W_law_listed_told K a)) [] E0 (tCons (tLst (tCons (tC (.int 9)) tNil)) (tCons (tLstRg (tRg1 (tC (.int 9)))) tNil))) (tLst (tCons (tC (.str "inside")) (tCons (tC (.int 9)) tNil))))) (tTest (tOp (rNeD K) (tCall (SpW K 2 (W_law_listed_told K a)) [] E0 (tCons (tTup tNil) (tCons (tLstRg (tRg1 (tC (.int 9)))) tNil))) (tLst (tCons (tC (.str "many")) (tCons (tC (.int 9)) tNil)))))) (tRet (tC (.bl false))) tNext)
    (tSeq (tAsg (tLst (tCons (tTup (tCons (tC (.int 40)) tNil)) (tCons (tTup (tCons (tC (.int 12)) (tCons (tC (.int 40)) tNil))) (tCons (tTup (tCons (tC (.int 13)) (tCons (tC (.int 40)) tNil))) (tCons (tTup (tCons (tC (.int 12)) (tCons (tC (.int 13)) (tCons (tC (.int 40)) tNil)))) tNil))))) (gName 1))
    (tRet (tOp (rEqD K) (tLsG (SpGL K 2 (W_lots_between K a)) (tCons (tTup (tCons (tC (.int 40)) tNil)) (tCons (tLst (tCons (tC (.int 40)) (tCons (tC (.int 12)) (tCons (tC (.int 13)) tNil)))) tNil))) (tVar 1)))))))
def W_law_listed_right (K : PySem.W.Frag) (a : Ad) : WT := wN K (t_law_listed_right K a) N_law_listed_right
abbrev N_law_apart_right : List Str := ["_law_draws_here", "_law_net_here", "_law_kind_here", "_law_ties", "_law_world_here", "_law_one", "_law_other", "_law_size", "_law_inside", "_law_outside", "_law_due", "_law_got", "_law_left", "_law_right", "_law_place"]
def t_law_apart_right (K : PySem.W.Frag) (a : Ad) : TS :=
  (tSeq (tAsg (tFld K (tVar 1) "size") (gName 7))
    (tSeq (tIfS (tTest (tOp rEq (tVar 2) (tC (.str "oneway")))) (tRet (tAndV (tOp (rEqD K) (tCall (SpW K 4 (W_law_apart_told K a)) [] E0 (tCons (tVar 1) (tCons (tC .non) (tCons (tC .non) (tCons (tC .non) tNil))))) (tLst (tCons (tC (.bl true)) (tCons (tC (.bl false)) tNil)))) (tOp rIsBl (tCall (SpW K 1 (W_law_twoway_told K a)) [] E0 (tCons (tVar 1) tNil)) (tC (.bl true))))) tNext)
    (tSeq (tIfS (tTest (tOp rNotNQ (tCall (SpW K 1 (W_law_twoway_told K a)) [] E0 (tCons (tVar 1) tNil)) (tC .non))) (tRet (tC (.bl false))) tNext)
    (tSeq (tAsg (tLc (iList K (tVar 5)) (gName 14) (tTest (tOp (rIn K false) (tVar 14) (tVar 6))) (tVar 14) [14]) (gName 8))
    (tSeq (tAsg (tLc (iRng1 (tCons (tVar 7) tNil)) (gName 14) (tAnd (tTest (tOp (rIn K true) (tVar 14) (tVar 5))) (tTest (tOp (rIn K true) (tVar 14) (tVar 6)))) (tVar 14) [14]) (gName 9))
    (tSeq (tAsg (tOp (rI CMul fun i j => .int (i * j)) (tC (.int 2)) (tCall (SpW K 4 (W_law_amount_between K a)) [] E0 (tCons (tVar 3) (tCons (tVar 4) (tCons (tVar 8) (tCons (tVar 9) tNil)))))) (gName 10))
    (tSeq (tAsg (tCall (SpWX K 4 (W_spared_apart K a)) [] E0 (tCons (tVar 1) (tCons (tCB (rListQ K) (tCons (tVar 4) tNil)) (tCons (tCall (SpWD K 1 (W_law_handed K a)) [] E0 (tCons (tVar 0) (tCons (tVar 5) tNil))) (tCons (tCall (SpWD K 1 (W_law_handed K a)) [] E0 (tCons (tVar 0) (tCons (tVar 6) tNil))) tNil))))) (gName 11))
    (tSeq (tIfS (tOr (tNot (tB (tCall (SpW K 1 (W_law_int K a)) [] E0 (tCons (tVar 11) tNil)))) (tOr (tTest (tOp rNe (tVar 11) (tVar 10))) (tTest (tOp rNe (tCall (SpWX K 4 (W_spared K a)) [] E0 (tCons (tVar 1) (tCons (tVar 4) (tCons (tVar 5) (tCons (tCall (SpW K 2 (W_law_rest K a)) [] E0 (tCons (tVar 7) (tCons (tVar 6) tNil))) tNil))))) (tVar 10))))) (tRet (tC (.bl false))) tNext)
    (tSeq (tAsg (tCall (SpWX K 3 (W_cost K a)) [] E0 (tCons (tVar 1) (tCons (tVar 4) (tCons (tLc (iList K (tVar 5)) (gName 14) (tTest (tOp (rIn K true) (tVar 14) (tVar 6))) (tVar 14) [14]) tNil)))) (gName 12))
    (tSeq (tAsg (tCall (SpWX K 3 (W_cost K a)) [] E0 (tCons (tVar 1) (tCons (tVar 4) (tCons (tLc (iList K (tVar 6)) (gName 14) (tTest (tOp (rIn K true) (tVar 14) (tVar 5))) (tVar 14) [14]) tNil)))) (gName 13))
    (tSeq (tIfS (tTest (tOp rNe (tOp (rI0 fun i j => .int (i - j)) (tOp (rI0 fun i j => .int (i - j)) (tOp (rI0 fun i j => .int (i + j)) (tCall (SpWX K 3 (W_cost K a)) [] E0 (tCons (tVar 1) (tCons (tVar 4) (tCons (tVar 5) tNil)))) (tCall (SpWX K 3 (W_cost K a)) [] E0 (tCons (tVar 1) (tCons (tVar 4) (tCons (tVar 6) tNil))))) (tVar 12)) (tVar 13)) (tVar 10))) (tRet (tC (.bl false))) tNext)
    (tRet (tOp (rEqD K) (tMethUX (R_gates K a) "gates" E0 (tVar 1) (tCons (tVar 5) tNil)) (tMethUX (R_gates K a) "gates" E0 (tVar 1) (tCons (tCall (SpW K 2 (W_law_rest K a)) [] E0 (tCons (tVar 7) (tCons (tVar 5) tNil))) tNil)))))))))))))))
def W_law_apart_right (K : PySem.W.Frag) (a : Ad) : WT := wD K (t_law_apart_right K a) N_law_apart_right
abbrev N_law_refused : List Str := ["_law_draws_here", "_law_net_here", "_law_world_here", "_law_one", "_law_bad", "_law_kept", "_law_k", "_law_spoilt", "_law_word"]
def t_law_refused (K : PySem.W.Frag) (a : Ad) : TS :=
  (tSeq (tAsg (tCall (SpWD K 2 (W_law_bad_lot K a)) [] E0 (tCons (tVar 0) (tCons (tCB (rListQ K) (tCons (tVar 3) tNil)) (tCons (tFld K (tVar 1) "size") tNil)))) (gName 4))
    (tSeq (tAsg (tCB (rReprA K) (tCons (tOp (rIxL K) (tVar 4) (tC (.int 0))) tNil)) (gName 5))
    (tSeq (tFor (iRng1 (tCons (tC (.int 3)) tNil)) (gName 6) (tIfS (tTest (tOp (rNeD K) (tCall (SpW K 4 (W_law_lot_door K a)) [] E0 (tCons (tCall (SpTake K) [] E0 (tCons (tVar 0) (tCons (tC (.int 10)) tNil))) (tCons (tVar 1) (tCons (tVar 2) (tCons (tOp (rIxL K) (tVar 4) (tC (.int 0))) tNil))))) (tLst (tCons (tOp (rIxL K) (tVar 4) (tC (.int 1))) (tCons (tC (.bl true)) (tCons (tC (.bl false)) tNil)))))) (tRet (tC (.bl false))) tNext))
    (tSeq (tAsg (tCall (SpWD K 1 (W_law_bad_world K a)) [] E0 (tCons (tVar 0) (tCons (tVar 2) tNil))) (gName 7))
    (tSeq (tFor (iRng1 (tCons (tC (.int 3)) tNil)) (gName 8) (tIfS (tTest (tOp (rNeD K) (tCall (SpW K 4 (W_law_world_told K a)) [] E0 (tCons (tVar 8) (tCons (tVar 1) (tCons (tOp (rIxL K) (tVar 7) (tC (.int 0))) (tCons (tOp (rIxL K) (tVar 4) (tC (.int 0))) tNil))))) (tLst (tCons (tOp (rIxL K) (tVar 7) (tC (.int 1))) (tCons (tC (.bl true)) (tCons (tC (.bl false)) tNil)))))) (tRet (tC (.bl false))) tNext))
    (tSeq (tIfS (tTest (tOp rEq (tCon K (tVar 1) "KIND") (tC (.str "twoway")))) (tSeq (tIfS (tTest (tOp (rNeD K) (tCall (SpW K 4 (W_law_apart_told K a)) [] E0 (tCons (tVar 1) (tCons (tOp (rIxL K) (tVar 7) (tC (.int 0))) (tCons (tOp (rIxL K) (tVar 4) (tC (.int 0))) (tCons (tLst (tCons (tC (.int 0)) (tCons (tC (.int 0)) tNil))) tNil))))) (tTup (tCons (tC (.str "world")) (tCons (tOp (rIxL K) (tVar 7) (tC (.int 1))) tNil))))) (tRet (tC (.bl false))) tNext)
    (tIfS (tOr (tTest (tOp (rNeD K) (tCall (SpW K 4 (W_law_apart_told K a)) [] E0 (tCons (tVar 1) (tCons (tVar 2) (tCons (tOp (rIxL K) (tVar 4) (tC (.int 0))) (tCons (tLst (tCons (tC (.int 0)) (tCons (tC (.int 0)) tNil))) tNil))))) (tOp (rIxL K) (tVar 4) (tC (.int 1))))) (tTest (tOp (rNeD K) (tCall (SpW K 4 (W_law_apart_told K a)) [] E0 (tCons (tVar 1) (tCons (tVar 2) (tCons (tLst tNil) (tCons (tOp (rIxL K) (tVar 4) (tC (.int 0))) tNil))))) (tOp (rIxL K) (tVar 4) (tC (.int 1)))))) (tRet (tC (.bl false))) tNext)) tNext)
    (tRet (tOp rEq (tCB (rReprA K) (tCons (tOp (rIxL K) (tVar 4) (tC (.int 0))) tNil)) (tVar 5)))))))))
def W_law_refused (K : PySem.W.Frag) (a : Ad) : WT := wD K (t_law_refused K a) N_law_refused
abbrev N_law : List Str := ["_law_script", "_law_draws_here", "_law_kind_here", "_law_small", "_law_size", "_law_ties", "_law_world_here", "_law_one", "_law_other", "_law_net_here", "_law_kept", "_law_left", "_law_right", "_law_due", "_law_got", "_law_place"]
def t_lawR (K : PySem.W.Frag) (a : Ad) : TS :=
  (tSeq (tAsg (tCall (SpWD K 0 (W_law_kind K a)) [] E0 (tCons (tVar 1) tNil)) (gName 2))
    (tSeq (tAsg (tCall (SpWD K 0 (W_law_any_net K a)) [] E0 (tCons (tVar 1) tNil)) (gName 3))
    (tSeq (tAsg (tOp (rIxL K) (tVar 3) (tC (.int 0))) (gName 4))
    (tSeq (tAsg (tOp (rIxL K) (tVar 3) (tC (.int 1))) (gName 5))
    (tSeq (tAsg (tCall (SpWD K 1 (W_law_world K a)) [] E0 (tCons (tVar 1) (tCons (tCB (rLenQ K) (tCons (tVar 5) tNil)) tNil))) (gName 6))
    (tSeq (tAsg (tCall (SpWD K 1 (W_law_lot K a)) [] E0 (tCons (tVar 1) (tCons (tVar 4) tNil))) (gName 7))
    (tSeq (tAsg (tCall (SpWD K 1 (W_law_lot K a)) [] E0 (tCons (tVar 1) (tCons (tVar 4) tNil))) (gName 8))
    (tSeq (tAsg (tCall (SpW K 3 (W_law_built K a)) [] E0 (tCons (tVar 2) (tCons (tVar 4) (tCons (tVar 5) tNil)))) (gName 9))
    (tSeq (tAsg (tCB (rReprA K) (tCons (tLst (tCons (tVar 5) (tCons (tVar 6) (tCons (tVar 7) (tCons (tVar 8) tNil))))) tNil)) (gName 10))
    (tSeq (tAsg (tLc (iList K (tVar 7)) (gName 15) (tTest (tOp (rIn K true) (tVar 15) (tVar 8))) (tVar 15) [15]) (gName 11))
    (tSeq (tAsg (tLc (iList K (tVar 8)) (gName 15) (tTest (tOp (rIn K true) (tVar 15) (tVar 7))) (tVar 15) [15]) (gName 12))
    (tSeq (tAsg (tCall (SpW K 4 (W_law_amount_between K a)) [] E0 (tCons (tVar 5) (tCons (tVar 6) (tCons (tVar 11) (tCons (tVar 12) tNil))))) (gName 13))
    (tSeq (tIfS (tTest (tOp rEq (tVar 2) (tC (.str "twoway")))) (tAsg (tOp (rI CMul fun i j => .int (i * j)) (tC (.int 2)) (tVar 13)) (gName 13)) tNext)
    (tSeq (tAsg (tCall (SpWX K 4 (W_spared K a)) [] E0 (tCons (tVar 9) (tCons (tCB (rTupQ K) (tCons (tVar 6) tNil)) (tCons (tCall (SpWD K 1 (W_law_handed K a)) [] E0 (tCons (tVar 1) (tCons (tVar 7) tNil))) (tCons (tCall (SpWD K 1 (W_law_handed K a)) [] E0 (tCons (tVar 1) (tCons (tVar 8) tNil))) tNil))))) (gName 14))
    (tSeq (tIfS (tOr (tNot (tB (tCall (SpW K 1 (W_law_int K a)) [] E0 (tCons (tVar 14) tNil)))) (tOr (tTest (tOp rNe (tVar 14) (tVar 13))) (tTest (tOp rNe (tCall (SpWX K 4 (W_spared K a)) [] E0 (tCons (tVar 9) (tCons (tVar 6) (tCons (tVar 8) (tCons (tVar 7) tNil))))) (tVar 13))))) (tRet (tC (.bl false))) tNext)
    (tSeq (tIfS (tTest (tOp rNe (tCall (SpWD K 4 (W_law_four K a)) [] E0 (tCons (tVar 1) (tCons (tVar 9) (tCons (tVar 6) (tCons (tVar 7) (tCons (tVar 8) tNil)))))) (tVar 13))) (tRet (tC (.bl false))) tNext)
    (tSeq (tIfS (tNot (tB (tCall (SpWD K 6 (W_law_apart_right K a)) [] E0 (tCons (tVar 1) (tCons (tVar 9) (tCons (tVar 2) (tCons (tVar 5) (tCons (tVar 6) (tCons (tVar 7) (tCons (tVar 8) tNil)))))))))) (tRet (tC (.bl false))) tNext)
    (tSeq (tIfS (tOr (tNot (tB (tCall (SpWD K 3 (W_law_corners_right K a)) [] E0 (tCons (tVar 1) (tCons (tVar 4) (tCons (tVar 7) (tCons (tVar 8) tNil))))))) (tNot (tB (tCall (SpWD K 3 (W_law_refused K a)) [] E0 (tCons (tVar 1) (tCons (tVar 9) (tCons (tVar 6) (tCons (tVar 7) tNil)))))))) (tRet (tC (.bl false))) tNext)
    (tSeq (tIfS (tOr (tTest (tOp rNe (tCall (SpWX K 4 (W_spared K a)) [] E0 (tCons (tVar 9) (tCons (tVar 6) (tCons (tVar 7) (tCons (tVar 8) tNil))))) (tVar 13))) (tNot (tB (tCall (SpW K 1 (W_law_listed_right K a)) [] E0 (tCons (tVar 4) tNil))))) (tRet (tC (.bl false))) tNext)
    (tRet (tOp rEq (tCB (rReprA K) (tCons (tLst (tCons (tVar 5) (tCons (tVar 6) (tCons (tVar 7) (tCons (tVar 8) tNil))))) tNil)) (tVar 10))))))))))))))))))))))
def t_law (K : PySem.W.Frag) (a : Ad) : TS :=
  tSeq (tAsg (tCall (spDraws K) [] E0 (tCons (tVar 0) tNil)) (gName 1)) (t_lawR K a)
end PL
namespace K02
open PySem PySem.Spec PyProof.Rows L2 Evl DL PL
variable [Tb]
def top (i : Nat) : Stmt := PySem.Challenge.pw_leastgates_k02_what_two_lots_save.main.body.getD i (.Pass ⟨0, 0, 0, 0⟩)
abbrev s_is_integer : Stmt := top 17
theorem sc_is_integer : FnScope N_is_integer ["value"] (defScope s_is_integer) := ⟨rfl, rfl, rfl, by decide +kernel, rfl, by decide +kernel, by decide +kernel⟩
theorem der_is_integer {P : Program} {w : World} {K : PySem.W.Frag} {a : Ad} {mg : Str → Option Value} {base : Heap} {f : Addr} {cdv : Value} {A : Around} {outer : List Env} {s : Shared} {H : Hp} {E : XK} (T : Blt mg) (hr : Room 0 (A.deeper (envOfC "is_integer" (defScope s_is_integer) s.heap.objs.size f cdv))) :
    PSs (cxOf (L2.CX P w) P w K mg base N_is_integer "is_integer" (defScope s_is_integer) f cdv A outer s H E) (defBody s_is_integer) (t_is_integer K a E) := by
  exact (pss_one (ps_ret (pe_and (pe_callB call_isi (by rfl) T.isinstance (by decide +kernel) (pa_cons (pv 0) (pa_cons (pe_bltn (v := .ty "int") (u := .type "int") (by rfl) T.int (by decide +kernel) rfl) pa_nil))) (pe_one (pe_not (pe_callB call_isi (by rfl) T.isinstance (by decide +kernel) (pa_cons (pv 0) (pa_cons (pe_bltn (v := .ty "bool") (u := .type "bool") (by rfl) T.bool (by decide +kernel) rfl) pa_nil))))))))
abbrev s_is_row : Stmt := top 19
theorem sc_is_row : FnScope N_is_row ["value"] (defScope s_is_row) := ⟨rfl, rfl, rfl, by decide +kernel, rfl, by decide +kernel, by decide +kernel⟩
theorem der_is_row {P : Program} {w : World} {K : PySem.W.Frag} {a : Ad} {mg : Str → Option Value} {base : Heap} {f : Addr} {cdv : Value} {A : Around} {outer : List Env} {s : Shared} {H : Hp} {E : XK} (T : Blt mg) (hr : Room 0 (A.deeper (envOfC "is_row" (defScope s_is_row) s.heap.objs.size f cdv))) :
    PSs (cxOf (L2.CX P w) P w K mg base N_is_row "is_row" (defScope s_is_row) f cdv A outer s H E) (defBody s_is_row) (t_is_row K a E) := by
  exact (pss_one (ps_ret (pe_callB call_isiT (by rfl) T.isinstance (by decide +kernel) (pa_cons (pv 0) (pa_cons (pe_tup (pa_cons (pe_bltn (v := .ty "list") (u := .type "list") (by rfl) T.list (by decide +kernel) rfl) (pa_cons (pe_bltn (v := .ty "tuple") (u := .type "tuple") (by rfl) T.tuple (by decide +kernel) rfl) pa_nil))) pa_nil)))))
abbrev s_first_wrong : Stmt := top 21
theorem sc_first_wrong : FnScope N_first_wrong ["flags"] (defScope s_first_wrong) := ⟨rfl, rfl, rfl, by decide +kernel, rfl, by decide +kernel, by decide +kernel⟩
theorem der_first_wrong {P : Program} {w : World} {K : PySem.W.Frag} {a : Ad} {mg : Str → Option Value} {base : Heap} {f : Addr} {cdv : Value} {A : Around} {outer : List Env} {s : Shared} {H : Hp} {E : XK} (T : Blt mg) (hr : Room 0 (A.deeper (envOfC "first_wrong" (defScope s_first_wrong) s.heap.objs.size f cdv))) :
    PSs (cxOf (L2.CX P w) P w K mg base N_first_wrong "first_wrong" (defScope s_first_wrong) f cdv A outer s H E) (defBody s_first_wrong) (t_first_wrong K a E) := by
  exact (pss_cons (ps_for (passes_of rfl) rfl (pi_enum rfl T.enumerate (pa_cons (pv 0) pa_nil)) (pg_tup rfl (pgs_cons (pg_name (i := 1) sc_first_wrong.nd rfl (by first | exact Or.inl rfl | exact Or.inr rfl)) (pgs_cons (pg_name (i := 2) sc_first_wrong.nd rfl (by first | exact Or.inl rfl | exact Or.inr rfl)) pgs_nil))) (pss_one (ps_if (pt_not (pt_val (pv 2))) (pss_one (ps_ret (pv 1))) pss_nil)))
    (pss_one (ps_ret pe_non)))
abbrev s_both : Stmt := top 31
theorem sc_both : FnScope N_both ["one", "other"] (defScope s_both) := ⟨rfl, rfl, rfl, by decide +kernel, rfl, by decide +kernel, by decide +kernel⟩
theorem der_both {P : Program} {w : World} {K : PySem.W.Frag} {a : Ad} {mg : Str → Option Value} {base : Heap} {f : Addr} {cdv : Value} {A : Around} {outer : List Env} {s : Shared} {H : Hp} {E : XK} (T : Blt mg) (hr : Room 0 (A.deeper (envOfC "both" (defScope s_both) s.heap.objs.size f cdv))) :
    PSs (cxOf (L2.CX P w) P w K mg base N_both "both" (defScope s_both) f cdv A outer s H E) (defBody s_both) (t_both K a E) := by
  exact (pss_one (ps_ret (pe_callTy call_tuple_of (by rfl) T.tuple (by decide +kernel) (pa_cons (pe_w (pe_callB (cr_sortedSet rfl) (by rfl) T.sorted (by decide +kernel) (pa_cons (pe_op or_union (pe_callTy (cr_setI rfl) (by rfl) T.set (by decide +kernel) (pa_cons (pv 0) pa_nil)) (pe_callTy (cr_setI rfl) (by rfl) T.set (by decide +kernel) (pa_cons (pv 1) pa_nil))) pa_nil))) pa_nil))))
abbrev s_common : Stmt := top 32
theorem sc_common : FnScope N_common ["one", "other"] (defScope s_common) := ⟨rfl, rfl, rfl, by decide +kernel, rfl, by decide +kernel, by decide +kernel⟩
theorem der_common {P : Program} {w : World} {K : PySem.W.Frag} {a : Ad} {mg : Str → Option Value} {base : Heap} {f : Addr} {cdv : Value} {A : Around} {outer : List Env} {s : Shared} {H : Hp} {E : XK} (T : Blt mg) (hr : Room 0 (A.deeper (envOfC "common" (defScope s_common) s.heap.objs.size f cdv))) :
    PSs (cxOf (L2.CX P w) P w K mg base N_common "common" (defScope s_common) f cdv A outer s H E) (defBody s_common) (t_common K a E) := by
  exact (pss_one (ps_ret (pe_callTy call_tuple_of (by rfl) T.tuple (by decide +kernel) (pa_cons (pe_lc (own := [("place", 2)]) rfl sc_common.nd (pi_list (pe_callB cr_sortedQ (by rfl) T.sorted (by decide +kernel) (pa_cons (pv 0) pa_nil))) (blkOk_by (N := N_common) (sc := defScope s_common) (by decide +kernel)) (fun _ _ _ _ _ => (pg_name (i := 2) sc_common.nd rfl (by first | exact Or.inl rfl | exact Or.inr rfl))) (fun _ _ _ _ _ => (pts_one (pt_cmpR op_in_seq (pv 2) (pv 1) (by first | exact nomark _ | rfl)))) (fun _ _ _ _ _ => (pv 2))) pa_nil))))
abbrev s_minus : Stmt := top 33
theorem sc_minus : FnScope N_minus ["one", "other"] (defScope s_minus) := ⟨rfl, rfl, rfl, by decide +kernel, rfl, by decide +kernel, by decide +kernel⟩
theorem der_minus {P : Program} {w : World} {K : PySem.W.Frag} {a : Ad} {mg : Str → Option Value} {base : Heap} {f : Addr} {cdv : Value} {A : Around} {outer : List Env} {s : Shared} {H : Hp} {E : XK} (T : Blt mg) (hr : Room 0 (A.deeper (envOfC "minus" (defScope s_minus) s.heap.objs.size f cdv))) :
    PSs (cxOf (L2.CX P w) P w K mg base N_minus "minus" (defScope s_minus) f cdv A outer s H E) (defBody s_minus) (t_minus K a E) := by
  exact (pss_one (ps_ret (pe_callTy call_tuple_of (by rfl) T.tuple (by decide +kernel) (pa_cons (pe_lc (own := [("place", 2)]) rfl sc_minus.nd (pi_list (pe_callB cr_sortedQ (by rfl) T.sorted (by decide +kernel) (pa_cons (pv 0) pa_nil))) (blkOk_by (N := N_minus) (sc := defScope s_minus) (by decide +kernel)) (fun _ _ _ _ _ => (pg_name (i := 2) sc_minus.nd rfl (by first | exact Or.inl rfl | exact Or.inr rfl))) (fun _ _ _ _ _ => (pts_one (pt_cmpR op_notIn_seq (pv 2) (pv 1) (by first | exact nomark _ | rfl)))) (fun _ _ _ _ _ => (pv 2))) pa_nil))))
abbrev s_rest : Stmt := top 34
theorem sc_rest : FnScope N_rest ["size", "lot"] (defScope s_rest) := ⟨rfl, rfl, rfl, by decide +kernel, rfl, by decide +kernel, by decide +kernel⟩
theorem der_rest {P : Program} {w : World} {K : PySem.W.Frag} {a : Ad} {mg : Str → Option Value} {base : Heap} {f : Addr} {cdv : Value} {A : Around} {outer : List Env} {s : Shared} {H : Hp} {E : XK} (T : Blt mg) (hr : Room 0 (A.deeper (envOfC "rest" (defScope s_rest) s.heap.objs.size f cdv))) :
    PSs (cxOf (L2.CX P w) P w K mg base N_rest "rest" (defScope s_rest) f cdv A outer s H E) (defBody s_rest) (t_rest K a E) := by
  exact (pss_one (ps_ret (pe_callTy call_tupB (by rfl) T.tuple (by decide +kernel) (pa_cons (pe_lc (own := [("place", 2)]) rfl sc_rest.nd (pi_range1 rfl T.range (pa_cons (pv 0) pa_nil)) (blkOk_by (N := N_rest) (sc := defScope s_rest) (by decide +kernel)) (fun _ _ _ _ _ => (pg_name (i := 2) sc_rest.nd rfl (by first | exact Or.inl rfl | exact Or.inr rfl))) (fun _ _ _ _ _ => (pts_one (pt_cmpR op_notIn_seq (pv 2) (pv 1) (by first | exact nomark _ | rfl)))) (fun _ _ _ _ _ => (pv 2))) pa_nil))))
abbrev s_by_size : Stmt := top 35
theorem sc_by_size : FnScope N_by_size ["lots"] (defScope s_by_size) := ⟨rfl, rfl, rfl, by decide +kernel, rfl, by decide +kernel, by decide +kernel⟩
theorem der_by_size {P : Program} {w : World} {K : PySem.W.Frag} {a : Ad} {mg : Str → Option Value} {base : Heap} {f : Addr} {cT : Addr} {A : Around} {outer : List Env} {s : Shared} {H : Hp} {E : XK} (T : Blt mg) (TB : LamX.TabB base mg cT a.tP) (hr : Room 0 (A.deeper (envOfC "by_size" (defScope s_by_size) s.heap.objs.size f (.ref cT)))) :
    PSs (cxOf (L2.CX P w) P w K mg base N_by_size "by_size" (defScope s_by_size) f (.ref cT) A outer s H E) (defBody s_by_size) (t_by_size K a E) := by
  exact (pss_one (ps_ret (pe_sortKey (pv 0) (by rfl) T.sorted hr TB rfl rfl (by decide +kernel) rfl rfl rfl rfl (by decide +kernel) (by rfl) (by rfl) T.len (fun _ _ _ _ _ => rfl))))
abbrev s_Net_many : Stmt := inClass (top 42) 2
theorem sc_Net_many : FnScope N_Net_many ["self"] (defScope s_Net_many) := ⟨rfl, rfl, rfl, by decide +kernel, rfl, by decide +kernel, by decide +kernel⟩
theorem der_Net_many {P : Program} {w : World} {K : PySem.W.Frag} {a : Ad} {mg : Str → Option Value} {base : Heap} {f : Addr} {cdv : Value} {A : Around} {outer : List Env} {s : Shared} {H : Hp} {E : XK} (T : Blt mg) (hr : Room 0 (A.deeper (envOfC "Net.many" (defScope s_Net_many) s.heap.objs.size f cdv))) :
    PSs (cxOf CX0 P w K mg base N_Net_many "Net.many" (defScope s_Net_many) f cdv A outer s H E).nox (defBody s_Net_many) (t_Net_many K a) := by
  exact (pss_one (ps_ret (pe_callB call_len_seq (by rfl) T.len (by decide +kernel) (pa_cons (pe_fld (pv 0) rfl) pa_nil))))
abbrev s_amount : Stmt := top 50
theorem sc_amount : FnScope N_amount ["world", "ties"] (defScope s_amount) := ⟨rfl, rfl, rfl, by decide +kernel, rfl, by decide +kernel, by decide +kernel⟩
theorem der_amount {P : Program} {w : World} {K : PySem.W.Frag} {a : Ad} {mg : Str → Option Value} {base : Heap} {f : Addr} {cdv : Value} {A : Around} {outer : List Env} {s : Shared} {H : Hp} {E : XK} (T : Blt mg) (hr : Room 0 (A.deeper (envOfC "amount" (defScope s_amount) s.heap.objs.size f cdv))) :
    PSs (cxOf (L2.CX P w) P w K mg base N_amount "amount" (defScope s_amount) f cdv A outer s H E) (defBody s_amount) (t_amount K a E) := by
  exact (pss_one (ps_ret (pe_callB (cr_sum rfl) (by rfl) T.sum (by decide +kernel) (pa_cons (pe_lc (own := [("tie", 2)]) rfl sc_amount.nd (pi_tup (pv 1)) (blkOk_by (N := N_amount) (sc := defScope s_amount) (by decide +kernel)) (fun _ _ _ _ _ => (pg_name (i := 2) sc_amount.nd rfl (by first | exact Or.inl rfl | exact Or.inr rfl))) (fun _ _ _ _ _ => pts_nil) (fun _ _ _ _ _ => (pe_ix ix_tup (pv 0) (pv 2) (fun _ _ => rfl)))) pa_nil))))
abbrev s_law_draws : Stmt := top 56
theorem sc_law_draws : FnScope N_law_draws ["_law_script"] (defScope s_law_draws) := ⟨rfl, rfl, rfl, by decide +kernel, rfl, by decide +kernel, by decide +kernel⟩
theorem der_law_draws {P : Program} {w : World} {K : PySem.W.Frag} {a : Ad} {mg : Str → Option Value} {base : Heap} {f : Addr} {cdv : Value} {A : Around} {outer : List Env} {s : Shared} {H : Hp} {E : XK} (T : Blt mg) (hr : Room 0 (A.deeper (envOfC "_law_draws" (defScope s_law_draws) s.heap.objs.size f cdv))) :
    PSs (cxOf CX0 P w K mg base N_law_draws "_law_draws" (defScope s_law_draws) f cdv A outer s H E).nox (defBody s_law_draws) (t_law_draws K a) := by
  exact (pss_cons (ps_set (i := 1) sc_law_draws.nd rfl (by first | exact Or.inl rfl | exact Or.inr rfl) (pe_lst (pa_cons pe_int pa_nil)))
    (pss_cons (ps_for PassesOwn.never rfl (pi_range1 rfl T.range (pa_cons (pe_callB (call_min2 rfl) (by rfl) T.min (by decide +kernel) (pa_cons pe_int (pa_cons (pe_callB call_len_seq (by rfl) T.len (by decide +kernel) (pa_cons (pv 0) pa_nil)) pa_nil))) pa_nil)) (pg_name (i := 2) sc_law_draws.nd rfl (by first | exact Or.inl rfl | exact Or.inr rfl)) (pss_cons (ps_set (i := 3) sc_law_draws.nd rfl (by first | exact Or.inl rfl | exact Or.inr rfl) (pe_callTy call_int1 (by rfl) T.int (by decide +kernel) (pa_cons (pe_ix ix_list (pv 0) (pv 2) (fun _ _ => rfl)) pa_nil)))
    (pss_cons (ps_if (pt_cmpR op_lt (pv 3) pe_int (by first | exact nomark _ | rfl)) (pss_one (ps_set (i := 3) sc_law_draws.nd rfl (by first | exact Or.inl rfl | exact Or.inr rfl) (pe_op op_sub pe_int (pv 3)))) pss_nil)
    (pss_one (ps_if (pt_cmpR op_ge (pv 3) (pe_op op_pow pe_int pe_int) (by first | exact nomark _ | rfl)) (pss_one (ps_for PassesOwn.never rfl (pi_range1 rfl T.range (pa_cons pe_int pa_nil)) (pg_name (i := 4) sc_law_draws.nd rfl (by first | exact Or.inl rfl | exact Or.inr rfl)) (pss_one (ps_if (pt_cmpR op_gt (pv 3) pe_int (by first | exact nomark _ | rfl)) (pss_cons (ps_expr (pe_bm PySem.F.plainAttrs_list PySem.F.slot_list_append PySem.F.type_list_append mt_append (pv 1) (pa_cons (pe_op op_mod (pe_callTy call_int1 (by rfl) T.int (by decide +kernel) (pa_cons (pv 3) pa_nil)) pe_int) pa_nil)))
    (pss_one (ps_set (i := 3) sc_law_draws.nd rfl (by first | exact Or.inl rfl | exact Or.inr rfl) (pe_op op_fdiv (pv 3) pe_int)))) pss_nil)))) (pss_cons (ps_set (i := 5) sc_law_draws.nd rfl (by first | exact Or.inl rfl | exact Or.inr rfl) (pe_op op_mod (pe_callTy call_int1 (by rfl) T.int (by decide +kernel) (pa_cons (pe_op op_add (pe_op op_add (pe_op op_mul (pv 3) pe_int) (pe_op op_mul (pv 2) pe_int)) pe_int) pa_nil)) pe_int))
    (pss_one (ps_for PassesOwn.never rfl (pi_range1 rfl T.range (pa_cons pe_int pa_nil)) (pg_name (i := 4) sc_law_draws.nd rfl (by first | exact Or.inl rfl | exact Or.inr rfl)) (pss_cons (ps_set (i := 5) sc_law_draws.nd rfl (by first | exact Or.inl rfl | exact Or.inr rfl) (pe_op op_mod (pe_callTy call_int1 (by rfl) T.int (by decide +kernel) (pa_cons (pe_op op_add (pe_op op_add (pe_op op_add (pe_op op_mul (pv 5) (pv 5)) (pe_op op_mul (pv 4) pe_int)) (pe_op op_mul (pv 2) pe_int)) pe_int) pa_nil)) pe_int))
    (pss_one (ps_expr (pe_bm PySem.F.plainAttrs_list PySem.F.slot_list_append PySem.F.type_list_append mt_append (pv 1) (pa_cons (pe_op op_fdiv (pv 5) pe_int) pa_nil)))))))))))))
    (pss_one (ps_ret (pv 1)))))
abbrev s_law_take : Stmt := top 57
theorem sc_law_take : FnScope N_law_take ["_law_draws_here", "_law_many"] (defScope s_law_take) := ⟨rfl, rfl, rfl, by decide +kernel, rfl, by decide +kernel, by decide +kernel⟩
theorem der_law_take {P : Program} {w : World} {K : PySem.W.Frag} {a : Ad} {mg : Str → Option Value} {base : Heap} {f : Addr} {cdv : Value} {A : Around} {outer : List Env} {s : Shared} {H : Hp} {E : XK} (T : Blt mg) (hr : Room 0 (A.deeper (envOfC "_law_take" (defScope s_law_take) s.heap.objs.size f cdv))) :
    PSs (cxOf CX0 P w K mg base N_law_take "_law_take" (defScope s_law_take) f cdv A outer s H E).nox (defBody s_law_take) (t_law_take K a) := by
  exact (pss_cons (ps_set (i := 2) sc_law_take.nd rfl (by first | exact Or.inl rfl | exact Or.inr rfl) (pe_ix ix_list (pv 0) pe_int (fun _ _ => rfl)))
    (pss_cons (ps_if (pt_cmpR op_ge (pv 2) (pe_callB call_len_seq (by rfl) T.len (by decide +kernel) (pa_cons (pv 0) pa_nil)) (by first | exact nomark _ | rfl)) (pss_one (ps_ret pe_int)) pss_nil)
    (pss_cons (ps_asg (pe_op op_add (pv 2) pe_int) (pg_sub (pv 0) pe_int set_list))
    (pss_one (ps_ret (pe_op op_mod (pe_callTy call_int1 (by rfl) T.int (by decide +kernel) (pa_cons (pe_ix ix_list (pv 0) (pv 2) (fun _ _ => rfl)) pa_nil)) (pv 1)))))))
abbrev s_law_int : Stmt := top 58
theorem sc_law_int : FnScope N_law_int ["_law_value"] (defScope s_law_int) := ⟨rfl, rfl, rfl, by decide +kernel, rfl, by decide +kernel, by decide +kernel⟩
theorem der_law_int {P : Program} {w : World} {K : PySem.W.Frag} {a : Ad} {mg : Str → Option Value} {base : Heap} {f : Addr} {cdv : Value} {A : Around} {outer : List Env} {s : Shared} {H : Hp} {E : XK} (T : Blt mg) (hr : Room 0 (A.deeper (envOfC "_law_int" (defScope s_law_int) s.heap.objs.size f cdv))) :
    PSs (cxOf CX0 P w K mg base N_law_int "_law_int" (defScope s_law_int) f cdv A outer s H E).nox (defBody s_law_int) (t_law_int K a) := by
  exact (pss_one (ps_ret (pe_and (pe_callB call_isi (by rfl) T.isinstance (by decide +kernel) (pa_cons (pv 0) (pa_cons (pe_bltn (v := .ty "int") (u := .type "int") (by rfl) T.int (by decide +kernel) rfl) pa_nil))) (pe_one (pe_not (pe_callB call_isi (by rfl) T.isinstance (by decide +kernel) (pa_cons (pv 0) (pa_cons (pe_bltn (v := .ty "bool") (u := .type "bool") (by rfl) T.bool (by decide +kernel) rfl) pa_nil))))))))
abbrev s_law_rest : Stmt := top 67
theorem sc_law_rest : FnScope N_law_rest ["_law_size", "_law_lot_here"] (defScope s_law_rest) := ⟨rfl, rfl, rfl, by decide +kernel, rfl, by decide +kernel, by decide +kernel⟩
theorem der_law_rest {P : Program} {w : World} {K : PySem.W.Frag} {a : Ad} {mg : Str → Option Value} {base : Heap} {f : Addr} {cdv : Value} {A : Around} {outer : List Env} {s : Shared} {H : Hp} {E : XK} (T : Blt mg) (hr : Room 0 (A.deeper (envOfC "_law_rest" (defScope s_law_rest) s.heap.objs.size f cdv))) :
    PSs (cxOf CX0 P w K mg base N_law_rest "_law_rest" (defScope s_law_rest) f cdv A outer s H E).nox (defBody s_law_rest) (t_law_rest K a) := by
  exact (pss_one (ps_ret (pe_lc (own := [("_law_place", 2)]) rfl sc_law_rest.nd (pi_range1 rfl T.range (pa_cons (pv 0) pa_nil)) (blkOk_by (N := N_law_rest) (sc := defScope s_law_rest) (by decide +kernel)) (fun _ _ _ _ _ => (pg_name (i := 2) sc_law_rest.nd rfl (by first | exact Or.inl rfl | exact Or.inr rfl))) (fun _ _ _ _ _ => (pts_one (pt_cmpR op_notIn_seq (pv 2) (pv 1) (by first | exact nomark _ | rfl)))) (fun _ _ _ _ _ => (pv 2)))))
abbrev s_law_amount_between : Stmt := top 78
theorem sc_law_amount_between : FnScope N_law_amount_between ["_law_ties", "_law_world_here", "_law_one", "_law_other"] (defScope s_law_amount_between) := ⟨rfl, rfl, rfl, by decide +kernel, rfl, by decide +kernel, by decide +kernel⟩
theorem der_law_amount_between {P : Program} {w : World} {K : PySem.W.Frag} {a : Ad} {mg : Str → Option Value} {base : Heap} {f : Addr} {cdv : Value} {A : Around} {outer : List Env} {s : Shared} {H : Hp} {E : XK} (T : Blt mg) (hr : Room 0 (A.deeper (envOfC "_law_amount_between" (defScope s_law_amount_between) s.heap.objs.size f cdv))) :
    PSs (cxOf CX0 P w K mg base N_law_amount_between "_law_amount_between" (defScope s_law_amount_between) f cdv A outer s H E).nox (defBody s_law_amount_between) (t_law_amount_between K a) := by
  exact (pss_cons (ps_set (i := 4) sc_law_amount_between.nd rfl (by first | exact Or.inl rfl | exact Or.inr rfl) pe_int)
    (pss_cons (ps_for PassesOwn.never rfl (pi_range1 rfl T.range (pa_cons (pe_callB call_len_seq (by rfl) T.len (by decide +kernel) (pa_cons (pv 0) pa_nil)) pa_nil)) (pg_name (i := 5) sc_law_amount_between.nd rfl (by first | exact Or.inl rfl | exact Or.inr rfl)) (pss_cons (ps_set (i := 6) sc_law_amount_between.nd rfl (by first | exact Or.inl rfl | exact Or.inr rfl) (pe_ix ix_tup (pe_ix ix_list (pv 0) (pv 5) (fun _ _ => rfl)) pe_int (fun _ _ => rfl)))
    (pss_cons (ps_set (i := 7) sc_law_amount_between.nd rfl (by first | exact Or.inl rfl | exact Or.inr rfl) (pe_ix ix_tup (pe_ix ix_list (pv 0) (pv 5) (fun _ _ => rfl)) pe_int (fun _ _ => rfl)))
    (pss_one (ps_if (PW.pt (pw_or (PW.pt (pw_and (pt_cmpR op_in_seq (pv 6) (pv 2) (by first | exact nomark _ | rfl)) (pw_and1 (pt_cmpR op_in_seq (pv 7) (pv 3) (by first | exact nomark _ | rfl))))) (pw_or1 (PW.pt (pw_and (pt_cmpR op_in_seq (pv 6) (pv 3) (by first | exact nomark _ | rfl)) (pw_and1 (pt_cmpR op_in_seq (pv 7) (pv 2) (by first | exact nomark _ | rfl)))))))) (pss_one (ps_set (i := 4) sc_law_amount_between.nd rfl (by first | exact Or.inl rfl | exact Or.inr rfl) (pe_op op_add (pv 4) (pe_ix ix_list (pv 1) (pv 5) (fun _ _ => rfl))))) pss_nil)))))
    (pss_one (ps_ret (pv 4)))))
abbrev s_is_index : Stmt := top 18
theorem sc_is_index : FnScope N_is_index ["value", "limit"] (defScope s_is_index) := ⟨rfl, rfl, rfl, by decide +kernel, rfl, by decide +kernel, by decide +kernel⟩
theorem der_is_index {P : Program} {w : World} {K : PySem.W.Frag} {a : Ad} {mg : Str → Option Value} {base : Heap} {f : Addr} {cdv : Value} {A : Around} {outer : List Env} {s : Shared} {H : Hp} {E : XK} (T : Blt mg) (k_is_integer : CalX P w K mg base "is_integer" 1 ["value"] (SpWX K 1 (W_is_integer K a))) (hr : Room 1 (A.deeper (envOfC "is_index" (defScope s_is_index) s.heap.objs.size f cdv))) :
    PSs (cxOf (L2.CX P w) P w K mg base N_is_index "is_index" (defScope s_is_index) f cdv A outer s H E) (defBody s_is_index) (t_is_index K a E) := by
  exact (pss_one (ps_ret (pe_and (pe_calE k_is_integer hr (by decide) rfl (passes_call (takes_of rfl rfl rfl rfl) fun _ _ _ _ h => h) (pa_cons (pv 0) pa_nil)) (pe_one (pe_chain op_le op_lt pe_int (pv 0) (pv 1))))))
abbrev s_wrong_member : Stmt := top 23
theorem sc_wrong_member : FnScope N_wrong_member ["limit", "members"] (defScope s_wrong_member) := ⟨rfl, rfl, rfl, by decide +kernel, rfl, by decide +kernel, by decide +kernel⟩
theorem der_wrong_member {P : Program} {w : World} {K : PySem.W.Frag} {a : Ad} {mg : Str → Option Value} {base : Heap} {f : Addr} {cdv : Value} {A : Around} {outer : List Env} {s : Shared} {H : Hp} {E : XK} (T : Blt mg) (k_is_row : CalX P w K mg base "is_row" 1 ["value"] (SpWX K 1 (W_is_row K a))) (k_is_integer : CalX P w K mg base "is_integer" 1 ["value"] (SpWX K 1 (W_is_integer K a))) (hr : Room 1 (A.deeper (envOfC "wrong_member" (defScope s_wrong_member) s.heap.objs.size f cdv))) :
    PSs (cxOf (L2.CX P w) P w K mg base N_wrong_member "wrong_member" (defScope s_wrong_member) f cdv A outer s H E) (defBody s_wrong_member) (t_wrong_member K a E) := by
  exact (pss_cons (ps_if (pt_not (pt_val (pe_calE k_is_row hr (by decide) rfl (passes_call (takes_of rfl rfl rfl rfl) fun _ _ _ _ h => h) (pa_cons (pv 1) pa_nil)))) (pss_one (ps_ret (pe_un un_neg pe_int))) pss_nil)
    (pss_cons (ps_for (passes_of rfl) rfl (pi_enumS rfl T.enumerate (pa_cons (pv 1) pa_nil)) (pg_tup rfl (pgs_cons (pg_name (i := 2) sc_wrong_member.nd rfl (by first | exact Or.inl rfl | exact Or.inr rfl)) (pgs_cons (pg_name (i := 3) sc_wrong_member.nd rfl (by first | exact Or.inl rfl | exact Or.inr rfl)) pgs_nil))) (pss_cons (ps_if (PW.pt (pw_or (pt_not (pt_val (pe_calE k_is_integer hr (by decide) rfl (passes_call (takes_of rfl rfl rfl rfl) fun _ _ _ _ h => h) (pa_cons (pv 3) pa_nil)))) (pw_or (pt_cmpR op_lt (pv 3) pe_int (by first | exact nomark _ | rfl)) (pw_or1 (pt_cmpR op_in_seq (pv 3) (pe_slice sl_seq (pv 1) po_none (po_some (pv 2))) (by first | exact nomark _ | rfl)))))) (pss_one (ps_ret (pv 2))) pss_nil)
    (pss_one (ps_if (PW.pt (pw_and (pt_cmpR op_notN (pv 0) pe_non (by first | exact nomark _ | rfl)) (pw_and1 (pt_cmpR op_ge (pv 3) (pv 0) (by first | exact nomark _ | rfl))))) (pss_one (ps_ret (pv 2))) pss_nil))))
    (pss_one (ps_ret pe_non))))
abbrev s_lots_inside : Stmt := top 36
theorem sc_lots_inside : FnScope N_lots_inside ["inner", "outer"] (defScope s_lots_inside) := ⟨rfl, rfl, rfl, by decide +kernel, rfl, by decide +kernel, by decide +kernel⟩
theorem der_lots_inside {P : Program} {w : World} {K : PySem.W.Frag} {a : Ad} {mg : Str → Option Value} {base : Heap} {f : Addr} {cdv : Value} {A : Around} {outer : List Env} {s : Shared} {H : Hp} {E : XK} (T : Blt mg) (k_minus : CalX P w K mg base "minus" 1 ["one", "other"] (SpWX K 2 (W_minus K a))) (k_both : CalX P w K mg base "both" 1 ["one", "other"] (SpWX K 2 (W_both K a))) (k_by_size : CalX P w K mg base "by_size" 1 ["lots"] (SpWX K 1 (W_by_size K a))) (hr : Room 1 (A.deeper (envOfC "lots_inside" (defScope s_lots_inside) s.heap.objs.size f cdv))) :
    PSs (cxOf (L2.CX P w) P w K mg base N_lots_inside "lots_inside" (defScope s_lots_inside) f cdv A outer s H E) (defBody s_lots_inside) (t_lots_inside K a E) := by
  exact (pss_cons (ps_set (i := 2) sc_lots_inside.nd rfl (by first | exact Or.inl rfl | exact Or.inr rfl) (pe_lst (pa_cons (pv 0) pa_nil)))
    (pss_cons (ps_for (passes_of rfl) rfl (pi_tup (pe_calE k_minus hr (by decide) rfl (passes_call (takes_of rfl rfl rfl rfl) fun _ _ _ _ h => h) (pa_cons (pv 1) (pa_cons (pv 0) pa_nil)))) (pg_name (i := 3) sc_lots_inside.nd rfl (by first | exact Or.inl rfl | exact Or.inr rfl)) (pss_one (ps_set (i := 2) sc_lots_inside.nd rfl (by first | exact Or.inl rfl | exact Or.inr rfl) (pe_op op_cat (pv 2) (pe_lc (own := [("lot", 4)]) rfl sc_lots_inside.nd (pi_list (pv 2)) (blkOk_by (N := N_lots_inside) (sc := defScope s_lots_inside) (by decide +kernel)) (fun _ _ _ _ _ => (pg_name (i := 4) sc_lots_inside.nd rfl (by first | exact Or.inl rfl | exact Or.inr rfl))) (fun _ _ _ _ _ => pts_nil) (fun _ _ _ _ _ => (pe_calX k_both hr (by decide) rfl (pa_cons (pv 4) (pa_cons (pe_tup (pa_cons (pv 3) pa_nil)) pa_nil)))))))))
    (pss_one (ps_ret (pe_calE k_by_size hr (by decide) rfl (passes_call (takes_of rfl rfl rfl rfl) fun _ _ _ _ h => h) (pa_cons (pv 2) pa_nil))))))
abbrev s_law_lot_ok : Stmt := top 59
theorem sc_law_lot_ok : FnScope N_law_lot_ok ["_law_value", "_law_size"] (defScope s_law_lot_ok) := ⟨rfl, rfl, rfl, by decide +kernel, rfl, by decide +kernel, by decide +kernel⟩
theorem der_law_lot_ok {P : Program} {w : World} {K : PySem.W.Frag} {a : Ad} {mg : Str → Option Value} {base : Heap} {f : Addr} {cdv : Value} {A : Around} {outer : List Env} {s : Shared} {H : Hp} {E : XK} (T : Blt mg) (k_law_int : Cal P w K mg base "_law_int" 1 ["_law_value"] (SpW K 1 (W_law_int K a))) (hr : Room 1 (A.deeper (envOfC "_law_lot_ok" (defScope s_law_lot_ok) s.heap.objs.size f cdv))) :
    PSs (cxOf CX0 P w K mg base N_law_lot_ok "_law_lot_ok" (defScope s_law_lot_ok) f cdv A outer s H E).nox (defBody s_law_lot_ok) (t_law_lot_ok K a) := by
  exact (pss_cons (ps_if (pt_not (pt_val (pe_callB call_isi (by rfl) T.isinstance (by decide +kernel) (pa_cons (pv 0) (pa_cons (pe_bltn (v := .ty "tuple") (u := .type "tuple") (by rfl) T.tuple (by decide +kernel) rfl) pa_nil))))) (pss_one (ps_ret pe_bl)) pss_nil)
    (pss_cons (ps_set (i := 2) sc_law_lot_ok.nd rfl (by first | exact Or.inl rfl | exact Or.inr rfl) (pe_un un_neg pe_int))
    (pss_cons (ps_for PassesOwn.never rfl (pi_tup (pv 0)) (pg_name (i := 3) sc_law_lot_ok.nd rfl (by first | exact Or.inl rfl | exact Or.inr rfl)) (pss_cons (ps_if (PW.pt (pw_or (pt_not (pt_val (pe_cal k_law_int hr (by decide) rfl (pa_cons (pv 3) pa_nil)))) (pw_or (pt_cmpR op_le (pv 3) (pv 2) (by first | exact nomark _ | rfl)) (pw_or1 (pt_cmpR op_ge (pv 3) (pv 1) (by first | exact nomark _ | rfl)))))) (pss_one (ps_ret pe_bl)) pss_nil)
    (pss_one (ps_set (i := 2) sc_law_lot_ok.nd rfl (by first | exact Or.inl rfl | exact Or.inr rfl) (pv 3)))))
    (pss_one (ps_ret pe_bl)))))
abbrev s_law_told_net : Stmt := top 60
theorem sc_law_told_net : FnScope N_law_told_net ["_law_draws_here"] (defScope s_law_told_net) := ⟨rfl, rfl, rfl, by decide +kernel, rfl, by decide +kernel, by decide +kernel⟩
theorem der_law_told_net {P : Program} {w : World} {K : PySem.W.Frag} {a : Ad} {mg : Str → Option Value} {base : Heap} {f : Addr} {cdv : Value} {A : Around} {outer : List Env} {s : Shared} {H : Hp} {E : XK} (T : Blt mg) (k_law_take : Cal P w K mg base "_law_take" 1 ["_law_draws_here", "_law_many"] (SpTake K)) (hr : Room 1 (A.deeper (envOfC "_law_told_net" (defScope s_law_told_net) s.heap.objs.size f cdv))) :
    PSs (cxOf CX0 P w K mg base N_law_told_net "_law_told_net" (defScope s_law_told_net) f cdv A outer s H E).nox (defBody s_law_told_net) (t_law_told_net K a) := by
  exact (pss_cons (ps_set (i := 1) sc_law_told_net.nd rfl (by first | exact Or.inl rfl | exact Or.inr rfl) (pe_lst (pa_cons (pe_lst (pa_cons pe_int (pa_cons (pe_lst (pa_cons (pe_tup (pa_cons pe_int (pa_cons pe_int pa_nil))) (pa_cons (pe_tup (pa_cons pe_int (pa_cons pe_int pa_nil))) (pa_cons (pe_tup (pa_cons pe_int (pa_cons pe_int pa_nil))) pa_nil)))) pa_nil))) (pa_cons (pe_lst (pa_cons pe_int (pa_cons (pe_lst (pa_cons (pe_tup (pa_cons pe_int (pa_cons pe_int pa_nil))) (pa_cons (pe_tup (pa_cons pe_int (pa_cons pe_int pa_nil))) (pa_cons (pe_tup (pa_cons pe_int (pa_cons pe_int pa_nil))) (pa_cons (pe_tup (pa_cons pe_int (pa_cons pe_int pa_nil))) (pa_cons (pe_tup (pa_cons pe_int (pa_cons pe_int pa_nil))) pa_nil)))))) pa_nil))) pa_nil))))
    (pss_cons (ps_expr (pe_bm PySem.F.plainAttrs_list PySem.F.slot_list_append PySem.F.type_list_append mt_append (pv 1) (pa_cons (pe_lst (pa_cons pe_int (pa_cons (pe_lst (pa_cons (pe_tup (pa_cons pe_int (pa_cons pe_int pa_nil))) (pa_cons (pe_tup (pa_cons pe_int (pa_cons pe_int pa_nil))) (pa_cons (pe_tup (pa_cons pe_int (pa_cons pe_int pa_nil))) (pa_cons (pe_tup (pa_cons pe_int (pa_cons pe_int pa_nil))) (pa_cons (pe_tup (pa_cons pe_int (pa_cons pe_int pa_nil))) (pa_cons (pe_tup (pa_cons pe_int (pa_cons pe_int pa_nil))) pa_nil))))))) pa_nil))) pa_nil)))
    (pss_cons (ps_expr (pe_bm PySem.F.plainAttrs_list PySem.F.slot_list_append PySem.F.type_list_append mt_append (pv 1) (pa_cons (pe_lst (pa_cons pe_int (pa_cons (pe_lst (pa_cons (pe_tup (pa_cons pe_int (pa_cons pe_int pa_nil))) (pa_cons (pe_tup (pa_cons pe_int (pa_cons pe_int pa_nil))) (pa_cons (pe_tup (pa_cons pe_int (pa_cons pe_int pa_nil))) (pa_cons (pe_tup (pa_cons pe_int (pa_cons pe_int pa_nil))) (pa_cons (pe_tup (pa_cons pe_int (pa_cons pe_int pa_nil))) (pa_cons (pe_tup (pa_cons pe_int (pa_cons pe_int pa_nil))) pa_nil))))))) pa_nil))) pa_nil)))
    (pss_cons (ps_expr (pe_bm PySem.F.plainAttrs_list PySem.F.slot_list_append PySem.F.type_list_append mt_append (pv 1) (pa_cons (pe_lst (pa_cons pe_int (pa_cons (pe_lst (pa_cons (pe_tup (pa_cons pe_int (pa_cons pe_int pa_nil))) (pa_cons (pe_tup (pa_cons pe_int (pa_cons pe_int pa_nil))) (pa_cons (pe_tup (pa_cons pe_int (pa_cons pe_int pa_nil))) pa_nil)))) pa_nil))) pa_nil)))
    (pss_cons (ps_expr (pe_bm PySem.F.plainAttrs_list PySem.F.slot_list_append PySem.F.type_list_append mt_append (pv 1) (pa_cons (pe_lst (pa_cons pe_int (pa_cons (pe_lst (pa_cons (pe_tup (pa_cons pe_int (pa_cons pe_int pa_nil))) (pa_cons (pe_tup (pa_cons pe_int (pa_cons pe_int pa_nil))) (pa_cons (pe_tup (pa_cons pe_int (pa_cons pe_int pa_nil))) (pa_cons (pe_tup (pa_cons pe_int (pa_cons pe_int pa_nil))) pa_nil))))) pa_nil))) pa_nil)))
    (pss_one (ps_ret (pe_ix ix_list (pv 1) (pe_cal k_law_take hr (by decide) rfl (pa_cons (pv 0) (pa_cons pe_int pa_nil))) (fun _ _ => rfl)))))))))
abbrev s_law_free_ties : Stmt := top 61
theorem sc_law_free_ties : FnScope N_law_free_ties ["_law_draws_here", "_law_size", "_law_many"] (defScope s_law_free_ties) := ⟨rfl, rfl, rfl, by decide +kernel, rfl, by decide +kernel, by decide +kernel⟩
theorem der_law_free_ties {P : Program} {w : World} {K : PySem.W.Frag} {a : Ad} {mg : Str → Option Value} {base : Heap} {f : Addr} {cdv : Value} {A : Around} {outer : List Env} {s : Shared} {H : Hp} {E : XK} (T : Blt mg) (k_law_take : Cal P w K mg base "_law_take" 1 ["_law_draws_here", "_law_many"] (SpTake K)) (hr : Room 1 (A.deeper (envOfC "_law_free_ties" (defScope s_law_free_ties) s.heap.objs.size f cdv))) :
    PSs (cxOf CX0 P w K mg base N_law_free_ties "_law_free_ties" (defScope s_law_free_ties) f cdv A outer s H E).nox (defBody s_law_free_ties) (t_law_free_ties K a) := by
  exact (pss_cons (ps_set (i := 3) sc_law_free_ties.nd rfl (by first | exact Or.inl rfl | exact Or.inr rfl) (pe_lst pa_nil))
    (pss_cons (ps_for PassesOwn.never rfl (pi_range1 rfl T.range (pa_cons (pv 2) pa_nil)) (pg_name (i := 4) sc_law_free_ties.nd rfl (by first | exact Or.inl rfl | exact Or.inr rfl)) (pss_cons (ps_set (i := 5) sc_law_free_ties.nd rfl (by first | exact Or.inl rfl | exact Or.inr rfl) (pe_cal k_law_take hr (by decide) rfl (pa_cons (pv 0) (pa_cons (pv 1) pa_nil))))
    (pss_one (ps_expr (pe_bm PySem.F.plainAttrs_list PySem.F.slot_list_append PySem.F.type_list_append mt_append (pv 3) (pa_cons (pe_tup (pa_cons (pv 5) (pa_cons (pe_cal k_law_take hr (by decide) rfl (pa_cons (pv 0) (pa_cons (pv 1) pa_nil))) pa_nil))) pa_nil))))))
    (pss_one (ps_ret (pv 3)))))
abbrev s_law_kind : Stmt := top 63
theorem sc_law_kind : FnScope N_law_kind ["_law_draws_here"] (defScope s_law_kind) := ⟨rfl, rfl, rfl, by decide +kernel, rfl, by decide +kernel, by decide +kernel⟩
theorem der_law_kind {P : Program} {w : World} {K : PySem.W.Frag} {a : Ad} {mg : Str → Option Value} {base : Heap} {f : Addr} {cdv : Value} {A : Around} {outer : List Env} {s : Shared} {H : Hp} {E : XK} (T : Blt mg) (k_law_take : Cal P w K mg base "_law_take" 1 ["_law_draws_here", "_law_many"] (SpTake K)) (hr : Room 1 (A.deeper (envOfC "_law_kind" (defScope s_law_kind) s.heap.objs.size f cdv))) :
    PSs (cxOf CX0 P w K mg base N_law_kind "_law_kind" (defScope s_law_kind) f cdv A outer s H E).nox (defBody s_law_kind) (t_law_kind K a) := by
  exact (pss_cons (ps_if (pt_cmpR op_eq (pe_cal k_law_take hr (by decide) rfl (pa_cons (pv 0) (pa_cons pe_int pa_nil))) pe_int (by first | exact nomark _ | rfl)) (pss_one (ps_ret pe_str)) pss_nil)
    (pss_one (ps_ret pe_str)))
abbrev s_law_world : Stmt := top 65
theorem sc_law_world : FnScope N_law_world ["_law_draws_here", "_law_many"] (defScope s_law_world) := ⟨rfl, rfl, rfl, by decide +kernel, rfl, by decide +kernel, by decide +kernel⟩
theorem der_law_world {P : Program} {w : World} {K : PySem.W.Frag} {a : Ad} {mg : Str → Option Value} {base : Heap} {f : Addr} {cdv : Value} {A : Around} {outer : List Env} {s : Shared} {H : Hp} {E : XK} (T : Blt mg) (k_law_take : Cal P w K mg base "_law_take" 1 ["_law_draws_here", "_law_many"] (SpTake K)) (hr : Room 1 (A.deeper (envOfC "_law_world" (defScope s_law_world) s.heap.objs.size f cdv))) :
    PSs (cxOf CX0 P w K mg base N_law_world "_law_world" (defScope s_law_world) f cdv A outer s H E).nox (defBody s_law_world) (t_law_world K a) := by
  exact (pss_cons (ps_set (i := 2) sc_law_world.nd rfl (by first | exact Or.inl rfl | exact Or.inr rfl) (pe_cal k_law_take hr (by decide) rfl (pa_cons (pv 0) (pa_cons pe_int pa_nil))))
    (pss_cons (by first | exact (ps_setLc (i := 3) (own := [("_law_k", 5)]) rfl sc_law_world.nd rfl rfl (sw_true rfl rfl rfl (by decide +kernel)) (pi_range1 rfl T.range (pa_cons (pv 1) pa_nil)) (blkOk_by (N := N_law_world) (sc := defScope s_law_world) (by decide +kernel)) (fun _ _ _ _ _ => (pg_name (i := 5) sc_law_world.nd rfl (by first | exact Or.inl rfl | exact Or.inr rfl))) (fun _ _ _ _ _ => pts_nil) (fun _ _ _ _ _ => (pe_cal k_law_take hr (by decide) rfl (pa_cons (pv 0) (pa_cons pe_int pa_nil))))) | exact (ps_set (i := 3) sc_law_world.nd rfl (by first | exact Or.inl rfl | exact Or.inr rfl) (pe_lc (own := [("_law_k", 5)]) rfl sc_law_world.nd (pi_range1 rfl T.range (pa_cons (pv 1) pa_nil)) (blkOk_by (N := N_law_world) (sc := defScope s_law_world) (by decide +kernel)) (fun _ _ _ _ _ => (pg_name (i := 5) sc_law_world.nd rfl (by first | exact Or.inl rfl | exact Or.inr rfl))) (fun _ _ _ _ _ => pts_nil) (fun _ _ _ _ _ => (pe_cal k_law_take hr (by decide) rfl (pa_cons (pv 0) (pa_cons pe_int pa_nil)))))))
    (pss_cons (ps_if (pt_cmpR op_in_seq (pv 2) (pe_tup (pa_cons pe_int (pa_cons pe_int pa_nil))) (by first | exact nomark _ | rfl)) (pss_one (by first | exact (ps_setLc (i := 3) (own := [("_law_entry", 6)]) rfl sc_law_world.nd rfl rfl (sw_true rfl rfl rfl (by decide +kernel)) (pi_list (pv 3)) (blkOk_by (N := N_law_world) (sc := defScope s_law_world) (by decide +kernel)) (fun _ _ _ _ _ => (pg_name (i := 6) sc_law_world.nd rfl (by first | exact Or.inl rfl | exact Or.inr rfl))) (fun _ _ _ _ _ => pts_nil) (fun _ _ _ _ _ => (pe_op op_fdiv (pv 6) pe_int))) | exact (ps_set (i := 3) sc_law_world.nd rfl (by first | exact Or.inl rfl | exact Or.inr rfl) (pe_lc (own := [("_law_entry", 6)]) rfl sc_law_world.nd (pi_list (pv 3)) (blkOk_by (N := N_law_world) (sc := defScope s_law_world) (by decide +kernel)) (fun _ _ _ _ _ => (pg_name (i := 6) sc_law_world.nd rfl (by first | exact Or.inl rfl | exact Or.inr rfl))) (fun _ _ _ _ _ => pts_nil) (fun _ _ _ _ _ => (pe_op op_fdiv (pv 6) pe_int)))))) pss_nil)
    (pss_cons (ps_if (PW.pt (pw_and (pt_cmpR op_eq (pv 2) pe_int (by first | exact nomark _ | rfl)) (pw_and1 (pt_cmpR op_gt (pv 1) pe_int (by first | exact nomark _ | rfl))))) (pss_cons (ps_set (i := 4) sc_law_world.nd rfl (by first | exact Or.inl rfl | exact Or.inr rfl) (pe_cal k_law_take hr (by decide) rfl (pa_cons (pv 0) (pa_cons (pv 1) pa_nil))))
    (pss_one (ps_asg (pe_op op_add (pe_ix ix_list (pe_lst (pa_cons (pe_op op_pow pe_int pe_int) (pa_cons (pe_op op_pow pe_int pe_int) (pa_cons (pe_op op_pow pe_int pe_int) (pa_cons pe_int pa_nil))))) (pe_cal k_law_take hr (by decide) rfl (pa_cons (pv 0) (pa_cons pe_int pa_nil))) (fun _ _ => rfl)) (pe_ix ix_list (pv 3) (pv 4) (fun _ _ => rfl))) (pg_sub (pv 3) (pv 4) set_list)))) pss_nil)
    (pss_one (ps_ret (pv 3)))))))
abbrev s_law_lot : Stmt := top 66
theorem sc_law_lot : FnScope N_law_lot ["_law_draws_here", "_law_size"] (defScope s_law_lot) := ⟨rfl, rfl, rfl, by decide +kernel, rfl, by decide +kernel, by decide +kernel⟩
theorem der_law_lot {P : Program} {w : World} {K : PySem.W.Frag} {a : Ad} {mg : Str → Option Value} {base : Heap} {f : Addr} {cdv : Value} {A : Around} {outer : List Env} {s : Shared} {H : Hp} {E : XK} (T : Blt mg) (k_law_take : Cal P w K mg base "_law_take" 1 ["_law_draws_here", "_law_many"] (SpTake K)) (hr : Room 1 (A.deeper (envOfC "_law_lot" (defScope s_law_lot) s.heap.objs.size f cdv))) :
    PSs (cxOf CX0 P w K mg base N_law_lot "_law_lot" (defScope s_law_lot) f cdv A outer s H E).nox (defBody s_law_lot) (t_law_lot K a) := by
  exact (pss_one (ps_ret (pe_lc (own := [("_law_place", 2)]) rfl sc_law_lot.nd (pi_range1 rfl T.range (pa_cons (pv 1) pa_nil)) (blkOk_by (N := N_law_lot) (sc := defScope s_law_lot) (by decide +kernel)) (fun _ _ _ _ _ => (pg_name (i := 2) sc_law_lot.nd rfl (by first | exact Or.inl rfl | exact Or.inr rfl))) (fun _ _ _ _ _ => (pts_one (pt_cmpR op_eq (pe_cal k_law_take hr (by decide) rfl (pa_cons (pv 0) (pa_cons pe_int pa_nil))) pe_int (by first | exact nomark _ | rfl)))) (fun _ _ _ _ _ => (pv 2)))))
abbrev s_law_handed : Stmt := top 68
theorem sc_law_handed : FnScope N_law_handed ["_law_draws_here", "_law_lot_here"] (defScope s_law_handed) := ⟨rfl, rfl, rfl, by decide +kernel, rfl, by decide +kernel, by decide +kernel⟩
theorem der_law_handed {P : Program} {w : World} {K : PySem.W.Frag} {a : Ad} {mg : Str → Option Value} {base : Heap} {f : Addr} {cdv : Value} {A : Around} {outer : List Env} {s : Shared} {H : Hp} {E : XK} (T : Blt mg) (k_law_take : Cal P w K mg base "_law_take" 1 ["_law_draws_here", "_law_many"] (SpTake K)) (hr : Room 1 (A.deeper (envOfC "_law_handed" (defScope s_law_handed) s.heap.objs.size f cdv))) :
    PSs (cxOf CX0 P w K mg base N_law_handed "_law_handed" (defScope s_law_handed) f cdv A outer s H E).nox (defBody s_law_handed) (t_law_handed K a) := by
  exact (pss_cons (ps_set (i := 2) sc_law_handed.nd rfl (by first | exact Or.inl rfl | exact Or.inr rfl) (pe_callTy call_list_of (by rfl) T.list (by decide +kernel) (pa_cons (pv 1) pa_nil)))
    (pss_cons (ps_if (pt_cmpR op_gt (pe_callB call_len_seq (by rfl) T.len (by decide +kernel) (pa_cons (pv 2) pa_nil)) pe_int (by first | exact nomark _ | rfl)) (pss_cons (ps_set (i := 3) sc_law_handed.nd rfl (by first | exact Or.inl rfl | exact Or.inr rfl) (pe_cal k_law_take hr (by decide) rfl (pa_cons (pv 0) (pa_cons (pe_callB call_len_seq (by rfl) T.len (by decide +kernel) (pa_cons (pv 2) pa_nil)) pa_nil))))
    (pss_one (ps_set (i := 2) sc_law_handed.nd rfl (by first | exact Or.inl rfl | exact Or.inr rfl) (pe_op op_cat (pe_slice sl_list (pv 2) (po_some (pv 3)) po_none) (pe_slice sl_list (pv 2) po_none (po_some (pv 3))))))) pss_nil)
    (pss_cons (ps_if (pt_cmpR op_eq (pe_cal k_law_take hr (by decide) rfl (pa_cons (pv 0) (pa_cons pe_int pa_nil))) pe_int (by first | exact nomark _ | rfl)) (pss_one (ps_set (i := 2) sc_law_handed.nd rfl (by first | exact Or.inl rfl | exact Or.inr rfl) (pe_revL (pv 2)))) pss_nil)
    (pss_cons (ps_if (pt_cmpR op_eq (pe_cal k_law_take hr (by decide) rfl (pa_cons (pv 0) (pa_cons pe_int pa_nil))) pe_int (by first | exact nomark _ | rfl)) (pss_one (ps_ret (pe_callTy call_tuple_of (by rfl) T.tuple (by decide +kernel) (pa_cons (pv 2) pa_nil)))) pss_nil)
    (pss_one (ps_ret (pv 2)))))))
abbrev s_law_bad_lot : Stmt := top 70
theorem sc_law_bad_lot : FnScope N_law_bad_lot ["_law_draws_here", "_law_good", "_law_size"] (defScope s_law_bad_lot) := ⟨rfl, rfl, rfl, by decide +kernel, rfl, by decide +kernel, by decide +kernel⟩
theorem der_law_bad_lot {P : Program} {w : World} {K : PySem.W.Frag} {a : Ad} {mg : Str → Option Value} {base : Heap} {f : Addr} {cdv : Value} {A : Around} {outer : List Env} {s : Shared} {H : Hp} {E : XK} (T : Blt mg) (k_law_take : Cal P w K mg base "_law_take" 1 ["_law_draws_here", "_law_many"] (SpTake K)) (hr : Room 1 (A.deeper (envOfC "_law_bad_lot" (defScope s_law_bad_lot) s.heap.objs.size f cdv))) :
    PSs (cxOf CX0 P w K mg base N_law_bad_lot "_law_bad_lot" (defScope s_law_bad_lot) f cdv A outer s H E).nox (defBody s_law_bad_lot) (t_law_bad_lot K a) := by
  exact (pss_cons (ps_set (i := 3) sc_law_bad_lot.nd rfl (by first | exact Or.inl rfl | exact Or.inr rfl) (pe_cal k_law_take hr (by decide) rfl (pa_cons (pv 0) (pa_cons pe_int pa_nil))))
    (pss_cons (ps_if (pt_cmpR op_eq (pv 3) pe_int (by first | exact nomark _ | rfl)) (pss_one (ps_ret (pe_lst (pa_cons (pe_ix ix_list (pe_lst (pa_cons pe_non (pa_cons pe_int (pa_cons pe_str (pa_cons (pe_disp (pps_cons pe_int pe_int pps_nil) (by rfl) (by rfl) (fun z => by cases z) (by decide)) pa_nil))))) (pe_cal k_law_take hr (by decide) rfl (pa_cons (pv 0) (pa_cons pe_int pa_nil))) (fun _ _ => rfl)) (pa_cons (pe_op op_sub pe_int pe_int) pa_nil))))) pss_nil)
    (pss_cons (ps_set (i := 4) sc_law_bad_lot.nd rfl (by first | exact Or.inl rfl | exact Or.inr rfl) (pe_cal k_law_take hr (by decide) rfl (pa_cons (pv 0) (pa_cons (pe_op op_add (pe_callB call_len_seq (by rfl) T.len (by decide +kernel) (pa_cons (pv 1) pa_nil)) pe_int) pa_nil))))
    (pss_cons (ps_set (i := 5) sc_law_bad_lot.nd rfl (by first | exact Or.inl rfl | exact Or.inr rfl) (pe_ix ix_list (pe_lst (pa_cons (pv 2) (pa_cons (pe_op op_sub pe_int pe_int) (pa_cons pe_non (pa_cons pe_bl (pa_cons pe_str (pa_cons (pe_op op_add (pv 2) pe_int) (pa_cons (pe_op op_sub pe_int pe_int) (pa_cons (pe_lst (pa_cons pe_int pa_nil)) pa_nil))))))))) (pv 3) (fun _ _ => rfl)))
    (pss_cons (ps_if (PW.pt (pw_and (pt_cmpR op_gt (pv 3) pe_int (by first | exact nomark _ | rfl)) (pw_and1 (pt_cmpR op_gt (pv 4) pe_int (by first | exact nomark _ | rfl))))) (pss_one (ps_set (i := 5) sc_law_bad_lot.nd rfl (by first | exact Or.inl rfl | exact Or.inr rfl) (pe_ix ix_list (pv 1) (pe_cal k_law_take hr (by decide) rfl (pa_cons (pv 0) (pa_cons (pv 4) pa_nil))) (fun _ _ => rfl)))) pss_nil)
    (pss_cons (ps_set (i := 6) sc_law_bad_lot.nd rfl (by first | exact Or.inl rfl | exact Or.inr rfl) (pe_op op_cat (pe_op op_cat (pe_slice sl_list (pv 1) po_none (po_some (pv 4))) (pe_lst (pa_cons (pv 5) pa_nil))) (pe_slice sl_list (pv 1) (po_some (pv 4)) po_none)))
    (pss_cons (ps_if (pt_cmpR op_eq (pe_cal k_law_take hr (by decide) rfl (pa_cons (pv 0) (pa_cons pe_int pa_nil))) pe_int (by first | exact nomark _ | rfl)) (pss_one (ps_expr (pe_bm PySem.F.plainAttrs_list PySem.F.slot_list_append PySem.F.type_list_append mt_append (pv 6) (pa_cons (pe_op op_sub pe_int pe_int) pa_nil)))) pss_nil)
    (pss_cons (ps_if (pt_cmpR op_eq (pe_cal k_law_take hr (by decide) rfl (pa_cons (pv 0) (pa_cons pe_int pa_nil))) pe_int (by first | exact nomark _ | rfl)) (pss_one (ps_set (i := 6) sc_law_bad_lot.nd rfl (by first | exact Or.inl rfl | exact Or.inr rfl) (pe_callTy call_tuple_of (by rfl) T.tuple (by decide +kernel) (pa_cons (pv 6) pa_nil)))) pss_nil)
    (pss_one (ps_ret (pe_lst (pa_cons (pv 6) (pa_cons (pv 4) pa_nil)))))))))))))
abbrev s_law_bad_world : Stmt := top 71
theorem sc_law_bad_world : FnScope N_law_bad_world ["_law_draws_here", "_law_world_here"] (defScope s_law_bad_world) := ⟨rfl, rfl, rfl, by decide +kernel, rfl, by decide +kernel, by decide +kernel⟩
theorem der_law_bad_world {P : Program} {w : World} {K : PySem.W.Frag} {a : Ad} {mg : Str → Option Value} {base : Heap} {f : Addr} {cdv : Value} {A : Around} {outer : List Env} {s : Shared} {H : Hp} {E : XK} (T : Blt mg) (k_law_take : Cal P w K mg base "_law_take" 1 ["_law_draws_here", "_law_many"] (SpTake K)) (hr : Room 1 (A.deeper (envOfC "_law_bad_world" (defScope s_law_bad_world) s.heap.objs.size f cdv))) :
    PSs (cxOf CX0 P w K mg base N_law_bad_world "_law_bad_world" (defScope s_law_bad_world) f cdv A outer s H E).nox (defBody s_law_bad_world) (t_law_bad_world K a) := by
  exact (pss_cons (ps_set (i := 2) sc_law_bad_world.nd rfl (by first | exact Or.inl rfl | exact Or.inr rfl) (pe_cal k_law_take hr (by decide) rfl (pa_cons (pv 0) (pa_cons pe_int pa_nil))))
    (pss_cons (ps_if (PW.pt (pw_or (pt_cmpR op_eq (pv 2) pe_int (by first | exact nomark _ | rfl)) (pw_or1 (pt_cmpR op_eq (pe_callB call_len_seq (by rfl) T.len (by decide +kernel) (pa_cons (pv 1) pa_nil)) pe_int (by first | exact nomark _ | rfl))))) (pss_one (ps_ret (pe_lst (pa_cons (pe_ix ix_list (pe_lst (pa_cons pe_non (pa_cons (pe_op op_cat (pe_callTy call_list_of (by rfl) T.list (by decide +kernel) (pa_cons (pv 1) pa_nil)) (pe_lst (pa_cons pe_int pa_nil))) (pa_cons pe_str (pa_cons pe_int pa_nil))))) (pe_cal k_law_take hr (by decide) rfl (pa_cons (pv 0) (pa_cons pe_int pa_nil))) (fun _ _ => rfl)) (pa_cons (pe_op op_sub pe_int pe_int) pa_nil))))) pss_nil)
    (pss_cons (ps_if (pt_cmpR op_eq (pv 2) pe_int (by first | exact nomark _ | rfl)) (pss_one (ps_ret (pe_lst (pa_cons (pe_slice sl_list (pe_callTy call_list_of (by rfl) T.list (by decide +kernel) (pa_cons (pv 1) pa_nil)) (po_some pe_int) po_none) (pa_cons (pe_op op_sub pe_int pe_int) pa_nil))))) pss_nil)
    (pss_cons (ps_set (i := 3) sc_law_bad_world.nd rfl (by first | exact Or.inl rfl | exact Or.inr rfl) (pe_cal k_law_take hr (by decide) rfl (pa_cons (pv 0) (pa_cons (pe_callB call_len_seq (by rfl) T.len (by decide +kernel) (pa_cons (pv 1) pa_nil)) pa_nil))))
    (pss_cons (ps_set (i := 4) sc_law_bad_world.nd rfl (by first | exact Or.inl rfl | exact Or.inr rfl) (pe_callTy call_list_of (by rfl) T.list (by decide +kernel) (pa_cons (pv 1) pa_nil)))
    (pss_cons (ps_asg (pe_ix ix_list (pe_lst (pa_cons (pe_op op_sub pe_int pe_int) (pa_cons pe_non (pa_cons pe_bl (pa_cons pe_str pa_nil))))) (pv 2) (fun _ _ => rfl)) (pg_sub (pv 4) (pv 3) set_list))
    (pss_cons (ps_if (pt_cmpR op_eq (pe_cal k_law_take hr (by decide) rfl (pa_cons (pv 0) (pa_cons pe_int pa_nil))) pe_int (by first | exact nomark _ | rfl)) (pss_one (ps_for PassesOwn.never rfl (pi_range2 rfl T.range (pa_cons (pe_op op_add (pv 3) pe_int) (pa_cons (pe_callB call_len_seq (by rfl) T.len (by decide +kernel) (pa_cons (pv 4) pa_nil)) pa_nil))) (pg_name (i := 5) sc_law_bad_world.nd rfl (by first | exact Or.inl rfl | exact Or.inr rfl)) (pss_one (ps_asg (pe_op op_sub pe_int pe_int) (pg_sub (pv 4) (pv 5) set_list))))) pss_nil)
    (pss_one (ps_ret (pe_lst (pa_cons (pv 4) (pa_cons (pv 3) pa_nil))))))))))))
abbrev s_is_pair : Stmt := top 20
theorem sc_is_pair : FnScope N_is_pair ["size", "value"] (defScope s_is_pair) := ⟨rfl, rfl, rfl, by decide +kernel, rfl, by decide +kernel, by decide +kernel⟩
theorem der_is_pair {P : Program} {w : World} {K : PySem.W.Frag} {a : Ad} {mg : Str → Option Value} {base : Heap} {f : Addr} {cdv : Value} {A : Around} {outer : List Env} {s : Shared} {H : Hp} {E : XK} (T : Blt mg) (k_is_row : CalX P w K mg base "is_row" 1 ["value"] (SpWX K 1 (W_is_row K a))) (k_is_index : CalX P w K mg base "is_index" 2 ["value", "limit"] (SpWX K 2 (W_is_index K a))) (hr : Room 2 (A.deeper (envOfC "is_pair" (defScope s_is_pair) s.heap.objs.size f cdv))) :
    PSs (cxOf (L2.CX P w) P w K mg base N_is_pair "is_pair" (defScope s_is_pair) f cdv A outer s H E) (defBody s_is_pair) (t_is_pair K a E) := by
  exact (pss_one (ps_ret (pe_and (pe_calE k_is_row hr (by decide) rfl (passes_call (takes_of rfl rfl rfl rfl) fun _ _ _ _ h => h) (pa_cons (pv 1) pa_nil)) (pe_and (pe_cmpR op_eq (pe_callB call_len_seq (by rfl) T.len (by decide +kernel) (pa_cons (pv 1) pa_nil)) pe_int (by first | exact nomark _ | rfl)) (pe_one (pe_callB (cr_all rfl) (by rfl) T.all (by decide +kernel) (pa_cons (pe_lc (own := [("place", 2)]) rfl sc_is_pair.nd (pi_tup (pv 1)) (blkOk_by (N := N_is_pair) (sc := defScope s_is_pair) (by decide +kernel)) (fun _ _ _ _ _ => (pg_name (i := 2) sc_is_pair.nd rfl (by first | exact Or.inl rfl | exact Or.inr rfl))) (fun _ _ _ _ _ => pts_nil) (fun _ _ _ _ _ => (pe_calX k_is_index hr (by decide) rfl (pa_cons (pv 2) (pa_cons (pv 0) pa_nil))))) pa_nil)))))))
abbrev s_good_size : Stmt := top 22
theorem sc_good_size : FnScope N_good_size ["size"] (defScope s_good_size) := ⟨rfl, rfl, rfl, by decide +kernel, rfl, by decide +kernel, by decide +kernel⟩
theorem der_good_size {P : Program} {w : World} {K : PySem.W.Frag} {a : Ad} {mg : Str → Option Value} {base : Heap} {f : Addr} {cdv : Value} {A : Around} {outer : List Env} {s : Shared} {H : Hp} {E : XK} (T : Blt mg) (k_is_integer : CalX P w K mg base "is_integer" 1 ["value"] (SpWX K 1 (W_is_integer K a))) (e_BadNumber : RzOk P w K mg base (a.er "BadNumber") (a.ec "BadNumber") "BadNumber" "name") {tk_MOST_PLACES : Tok} (c_MOST_PLACES : mg "MOST_PLACES" = some (.int 12 tk_MOST_PLACES)) (hr : Room 2 (A.deeper (envOfC "good_size" (defScope s_good_size) s.heap.objs.size f cdv))) :
    PSs (cxOf (L2.CX P w) P w K mg base N_good_size "good_size" (defScope s_good_size) f cdv A outer s H E) (defBody s_good_size) (t_good_size K a E) := by
  exact (pss_cons (ps_if (PW.pt (pw_or (pt_not (pt_val (pe_calE k_is_integer hr (by decide) rfl (passes_call (takes_of rfl rfl rfl rfl) fun _ _ _ _ h => h) (pa_cons (pv 0) pa_nil)))) (pw_or1 (pt_not (pt_chain op_le op_le pe_int (pv 0) (pe_glob rfl c_MOST_PLACES ⟨_, rfl⟩)))))) (pss_one (ps_rz rfl (takes_of rfl rfl rfl rfl) e_BadNumber hr (by decide) (pa_cons pe_str pa_nil))) pss_nil)
    (pss_one (ps_ret (pv 0))))
abbrev s_good_lot : Stmt := top 24
theorem sc_good_lot : FnScope N_good_lot ["size", "lot"] (defScope s_good_lot) := ⟨rfl, rfl, rfl, by decide +kernel, rfl, by decide +kernel, by decide +kernel⟩
theorem der_good_lot {P : Program} {w : World} {K : PySem.W.Frag} {a : Ad} {mg : Str → Option Value} {base : Heap} {f : Addr} {cdv : Value} {A : Around} {outer : List Env} {s : Shared} {H : Hp} {E : XK} (T : Blt mg) (k_wrong_member : CalX P w K mg base "wrong_member" 2 ["limit", "members"] (SpWX K 2 (W_wrong_member K a))) (e_BadLot : RzOk P w K mg base (a.er "BadLot") (a.ec "BadLot") "BadLot" "at") (hr : Room 2 (A.deeper (envOfC "good_lot" (defScope s_good_lot) s.heap.objs.size f cdv))) :
    PSs (cxOf (L2.CX P w) P w K mg base N_good_lot "good_lot" (defScope s_good_lot) f cdv A outer s H E) (defBody s_good_lot) (t_good_lot K a E) := by
  exact (pss_cons (ps_set (i := 2) sc_good_lot.nd rfl (by first | exact Or.inl rfl | exact Or.inr rfl) (pe_calE k_wrong_member hr (by decide) rfl (passes_call (takes_of rfl rfl rfl rfl) fun _ _ _ _ h => h) (pa_cons (pv 0) (pa_cons (pv 1) pa_nil))))
    (pss_cons (ps_if (pt_cmpR op_notN (pv 2) pe_non (by first | exact nomark _ | rfl)) (pss_one (ps_rz rfl (takes_of rfl rfl rfl rfl) e_BadLot hr (by decide) (pa_cons (pv 2) pa_nil))) pss_nil)
    (pss_one (ps_ret (pe_callTy call_tuple_of (by rfl) T.tuple (by decide +kernel) (pa_cons (pe_callB cr_sortedQ (by rfl) T.sorted (by decide +kernel) (pa_cons (pv 1) pa_nil)) pa_nil))))))
abbrev s_good_world : Stmt := top 25
theorem sc_good_world : FnScope N_good_world ["many", "world"] (defScope s_good_world) := ⟨rfl, rfl, rfl, by decide +kernel, rfl, by decide +kernel, by decide +kernel⟩
theorem der_good_world {P : Program} {w : World} {K : PySem.W.Frag} {a : Ad} {mg : Str → Option Value} {base : Heap} {f : Addr} {cdv : Value} {A : Around} {outer : List Env} {s : Shared} {H : Hp} {E : XK} (T : Blt mg) (k_is_row : CalX P w K mg base "is_row" 1 ["value"] (SpWX K 1 (W_is_row K a))) (k_is_integer : CalX P w K mg base "is_integer" 1 ["value"] (SpWX K 1 (W_is_integer K a))) (k_first_wrong : CalX P w K mg base "first_wrong" 1 ["flags"] (SpWX K 1 (W_first_wrong K a))) (e_BadWorld : RzOk P w K mg base (a.er "BadWorld") (a.ec "BadWorld") "BadWorld" "at") (hr : Room 2 (A.deeper (envOfC "good_world" (defScope s_good_world) s.heap.objs.size f cdv))) :
    PSs (cxOf (L2.CX P w) P w K mg base N_good_world "good_world" (defScope s_good_world) f cdv A outer s H E) (defBody s_good_world) (t_good_world K a E) := by
  exact (pss_cons (ps_if (PW.pt (pw_or (pt_not (pt_val (pe_calE k_is_row hr (by decide) rfl (passes_call (takes_of rfl rfl rfl rfl) fun _ _ _ _ h => h) (pa_cons (pv 1) pa_nil)))) (pw_or1 (PW.pt (pw_and (pt_cmpR op_notN (pv 0) pe_non (by first | exact nomark _ | rfl)) (pw_and1 (pt_cmpR op_ne (pe_callB call_len_seq (by rfl) T.len (by decide +kernel) (pa_cons (pv 1) pa_nil)) (pv 0) (by first | exact nomark _ | rfl)))))))) (pss_one (ps_rz rfl (takes_of rfl rfl rfl rfl) e_BadWorld hr (by decide) (pa_cons (pe_un un_neg pe_int) pa_nil))) pss_nil)
    (pss_cons (ps_set (i := 2) sc_good_world.nd rfl (by first | exact Or.inl rfl | exact Or.inr rfl) (pe_calE k_first_wrong hr (by decide) rfl (passes_call (takes_of rfl rfl rfl rfl) fun _ _ _ _ h => h) (pa_cons (pe_lc (own := [("amount", 3)]) rfl sc_good_world.nd (pi_seq (pv 1)) (blkOk_by (N := N_good_world) (sc := defScope s_good_world) (by decide +kernel)) (fun _ _ _ _ _ => (pg_name (i := 3) sc_good_world.nd rfl (by first | exact Or.inl rfl | exact Or.inr rfl))) (fun _ _ _ _ _ => pts_nil) (fun _ _ _ _ _ => (pe_and (pe_calX k_is_integer hr (by decide) rfl (pa_cons (pv 3) pa_nil)) (pe_one (pe_cmpR op_ge (pv 3) pe_int (by first | exact nomark _ | rfl)))))) pa_nil)))
    (pss_cons (ps_if (pt_cmpR op_notN (pv 2) pe_non (by first | exact nomark _ | rfl)) (pss_one (ps_rz rfl (takes_of rfl rfl rfl rfl) e_BadWorld hr (by decide) (pa_cons (pv 2) pa_nil))) pss_nil)
    (pss_one (ps_ret (pe_callTy call_tuple_of (by rfl) T.tuple (by decide +kernel) (pa_cons (pv 1) pa_nil)))))))
abbrev s_need_apart : Stmt := top 26
theorem sc_need_apart : FnScope N_need_apart ["one", "other"] (defScope s_need_apart) := ⟨rfl, rfl, rfl, by decide +kernel, rfl, by decide +kernel, by decide +kernel⟩
theorem der_need_apart {P : Program} {w : World} {K : PySem.W.Frag} {a : Ad} {mg : Str → Option Value} {base : Heap} {f : Addr} {cdv : Value} {A : Around} {outer : List Env} {s : Shared} {H : Hp} {E : XK} (T : Blt mg) (e_Meeting : RzOk P w K mg base (a.er "Meeting") (a.ec "Meeting") "Meeting" "place") (hr : Room 2 (A.deeper (envOfC "need_apart" (defScope s_need_apart) s.heap.objs.size f cdv))) :
    PSs (cxOf (L2.CX P w) P w K mg base N_need_apart "need_apart" (defScope s_need_apart) f cdv A outer s H E) (defBody s_need_apart) (t_need_apart K a E) := by
  exact (pss_one (ps_for (passes_of rfl) rfl (pi_tup (pv 0)) (pg_name (i := 2) sc_need_apart.nd rfl (by first | exact Or.inl rfl | exact Or.inr rfl)) (pss_one (ps_if (pt_cmpR op_in_seq (pv 2) (pv 1) (by first | exact nomark _ | rfl)) (pss_one (ps_rz rfl (takes_of rfl rfl rfl rfl) e_Meeting hr (by decide) (pa_cons (pv 2) pa_nil))) pss_nil))))
abbrev s_need_inside : Stmt := top 27
theorem sc_need_inside : FnScope N_need_inside ["inner", "outer"] (defScope s_need_inside) := ⟨rfl, rfl, rfl, by decide +kernel, rfl, by decide +kernel, by decide +kernel⟩
theorem der_need_inside {P : Program} {w : World} {K : PySem.W.Frag} {a : Ad} {mg : Str → Option Value} {base : Heap} {f : Addr} {cdv : Value} {A : Around} {outer : List Env} {s : Shared} {H : Hp} {E : XK} (T : Blt mg) (e_NotInside : RzOk P w K mg base (a.er "NotInside") (a.ec "NotInside") "NotInside" "place") (hr : Room 2 (A.deeper (envOfC "need_inside" (defScope s_need_inside) s.heap.objs.size f cdv))) :
    PSs (cxOf (L2.CX P w) P w K mg base N_need_inside "need_inside" (defScope s_need_inside) f cdv A outer s H E) (defBody s_need_inside) (t_need_inside K a E) := by
  exact (pss_one (ps_for (passes_of rfl) rfl (pi_tup (pv 0)) (pg_name (i := 2) sc_need_inside.nd rfl (by first | exact Or.inl rfl | exact Or.inr rfl)) (pss_one (ps_if (pt_cmpR op_notIn_seq (pv 2) (pv 1) (by first | exact nomark _ | rfl)) (pss_one (ps_rz rfl (takes_of rfl rfl rfl rfl) e_NotInside hr (by decide) (pa_cons (pv 2) pa_nil))) pss_nil))))
abbrev s_need_listed : Stmt := top 28
theorem sc_need_listed : FnScope N_need_listed ["size", "most"] (defScope s_need_listed) := ⟨rfl, rfl, rfl, by decide +kernel, rfl, by decide +kernel, by decide +kernel⟩
theorem der_need_listed {P : Program} {w : World} {K : PySem.W.Frag} {a : Ad} {mg : Str → Option Value} {base : Heap} {f : Addr} {cdv : Value} {A : Around} {outer : List Env} {s : Shared} {H : Hp} {E : XK} (T : Blt mg) (e_TooMany : RzOk P w K mg base (a.er "TooMany") (a.ec "TooMany") "TooMany" "size") (hr : Room 2 (A.deeper (envOfC "need_listed" (defScope s_need_listed) s.heap.objs.size f cdv))) :
    PSs (cxOf (L2.CX P w) P w K mg base N_need_listed "need_listed" (defScope s_need_listed) f cdv A outer s H E) (defBody s_need_listed) (t_need_listed K a E) := by
  exact (pss_one (ps_if (pt_cmpR op_gt (pv 0) (pv 1) (by first | exact nomark _ | rfl)) (pss_one (ps_rz rfl (takes_of rfl rfl rfl rfl) e_TooMany hr (by decide) (pa_cons (pv 0) pa_nil))) pss_nil))
abbrev s_check_twoway : Stmt := top 47
theorem sc_check_twoway : FnScope N_check_twoway ["net"] (defScope s_check_twoway) := ⟨rfl, rfl, rfl, by decide +kernel, rfl, by decide +kernel, by decide +kernel⟩
theorem der_check_twoway {P : Program} {w : World} {K : PySem.W.Frag} {a : Ad} {mg : Str → Option Value} {base : Heap} {f : Addr} {cdv : Value} {A : Around} {outer : List Env} {s : Shared} {H : Hp} {E : XK} (T : Blt mg) (e_NotTwoway : RzOk0 K mg (a.er "NotTwoway") (a.ec "NotTwoway") "NotTwoway") (hr : Room 2 (A.deeper (envOfC "check_twoway" (defScope s_check_twoway) s.heap.objs.size f cdv))) :
    PSs (cxOf (L2.CX P w) P w K mg base N_check_twoway "check_twoway" (defScope s_check_twoway) f cdv A outer s H E) (defBody s_check_twoway) (t_check_twoway K a E) := by
  exact (pss_one (ps_if (pt_cmpR op_ne (pe_con (pv 0) rfl) pe_str (by first | exact nomark _ | rfl)) (pss_one (ps_rz0 rfl (takes_of rfl rfl rfl rfl) e_NotTwoway)) pss_nil))
abbrev s_law_net : Stmt := top 62
theorem sc_law_net : FnScope N_law_net ["_law_draws_here", "_law_most"] (defScope s_law_net) := ⟨rfl, rfl, rfl, by decide +kernel, rfl, by decide +kernel, by decide +kernel⟩
theorem der_law_net {P : Program} {w : World} {K : PySem.W.Frag} {a : Ad} {mg : Str → Option Value} {base : Heap} {f : Addr} {cdv : Value} {A : Around} {outer : List Env} {s : Shared} {H : Hp} {E : XK} (T : Blt mg) (k_law_take : Cal P w K mg base "_law_take" 1 ["_law_draws_here", "_law_many"] (SpTake K)) (k_law_free_ties : Cal P w K mg base "_law_free_ties" 2 ["_law_draws_here", "_law_size", "_law_many"] (SpWDL K 2 (W_law_free_ties K a))) (k_law_told_net : Cal P w K mg base "_law_told_net" 2 ["_law_draws_here"] (SpWD K 0 (W_law_told_net K a))) (hr : Room 2 (A.deeper (envOfC "_law_net" (defScope s_law_net) s.heap.objs.size f cdv))) :
    PSs (cxOf CX0 P w K mg base N_law_net "_law_net" (defScope s_law_net) f cdv A outer s H E).nox (defBody s_law_net) (t_law_net K a) := by
  exact (pss_cons (ps_set (i := 2) sc_law_net.nd rfl (by first | exact Or.inl rfl | exact Or.inr rfl) (pe_cal k_law_take hr (by decide) rfl (pa_cons (pv 0) (pa_cons pe_int pa_nil))))
    (pss_cons (ps_set (i := 3) sc_law_net.nd rfl (by first | exact Or.inl rfl | exact Or.inr rfl) (pe_ix ix_list (pe_lst (pa_cons pe_int (pa_cons pe_int (pa_cons pe_int (pa_cons pe_int (pa_cons pe_int (pa_cons pe_int (pa_cons pe_int (pa_cons pe_int (pa_cons pe_int (pa_cons pe_int (pa_cons pe_int (pa_cons pe_int pa_nil))))))))))))) (pe_cal k_law_take hr (by decide) rfl (pa_cons (pv 0) (pa_cons pe_int pa_nil))) (fun _ _ => rfl)))
    (pss_cons (ps_if (pt_cmpR op_le (pv 2) pe_int (by first | exact nomark _ | rfl)) (pss_cons (ps_set (i := 4) sc_law_net.nd rfl (by first | exact Or.inl rfl | exact Or.inr rfl) (pe_lst pa_nil))
    (pss_cons (ps_for PassesOwn.never rfl (pi_range2 rfl T.range (pa_cons pe_int (pa_cons (pv 3) pa_nil))) (pg_name (i := 5) sc_law_net.nd rfl (by first | exact Or.inl rfl | exact Or.inr rfl)) (pss_cons (ps_set (i := 6) sc_law_net.nd rfl (by first | exact Or.inl rfl | exact Or.inr rfl) (pe_cal k_law_take hr (by decide) rfl (pa_cons (pv 0) (pa_cons (pv 5) pa_nil))))
    (pss_one (ps_if (pt_cmpR op_eq (pe_cal k_law_take hr (by decide) rfl (pa_cons (pv 0) (pa_cons pe_int pa_nil))) pe_int (by first | exact nomark _ | rfl)) (pss_one (ps_expr (pe_bm PySem.F.plainAttrs_list PySem.F.slot_list_append PySem.F.type_list_append mt_append (pv 4) (pa_cons (pe_tup (pa_cons (pv 5) (pa_cons (pv 6) pa_nil))) pa_nil)))) (pss_one (ps_expr (pe_bm PySem.F.plainAttrs_list PySem.F.slot_list_append PySem.F.type_list_append mt_append (pv 4) (pa_cons (pe_tup (pa_cons (pv 6) (pa_cons (pv 5) pa_nil))) pa_nil))))))))
    (pss_one (ps_set (i := 4) sc_law_net.nd rfl (by first | exact Or.inl rfl | exact Or.inr rfl) (pe_op op_cat (pv 4) (pe_cal k_law_free_ties hr (by decide) rfl (pa_cons (pv 0) (pa_cons (pv 3) (pa_cons (pe_cal k_law_take hr (by decide) rfl (pa_cons (pv 0) (pa_cons pe_int pa_nil))) pa_nil))))))))) (pss_one (ps_if (pt_cmpR op_le (pv 2) pe_int (by first | exact nomark _ | rfl)) (pss_cons (ps_set (i := 7) sc_law_net.nd rfl (by first | exact Or.inl rfl | exact Or.inr rfl) (pe_cal k_law_told_net hr (by decide) rfl (pa_cons (pv 0) pa_nil)))
    (pss_cons (ps_set (i := 3) sc_law_net.nd rfl (by first | exact Or.inl rfl | exact Or.inr rfl) (pe_ix ix_list (pv 7) pe_int (fun _ _ => rfl)))
    (pss_one (ps_set (i := 4) sc_law_net.nd rfl (by first | exact Or.inl rfl | exact Or.inr rfl) (pe_op op_cat (pe_callTy call_list_of (by rfl) T.list (by decide +kernel) (pa_cons (pe_ix ix_list (pv 7) pe_int (fun _ _ => rfl)) pa_nil)) (pe_cal k_law_free_ties hr (by decide) rfl (pa_cons (pv 0) (pa_cons (pv 3) (pa_cons (pe_cal k_law_take hr (by decide) rfl (pa_cons (pv 0) (pa_cons pe_int pa_nil))) pa_nil))))))))) (pss_one (ps_if (pt_cmpR op_eq (pv 2) pe_int (by first | exact nomark _ | rfl)) (pss_cons (ps_set (i := 8) sc_law_net.nd rfl (by first | exact Or.inl rfl | exact Or.inr rfl) (pe_op op_add pe_int (pe_cal k_law_take hr (by decide) rfl (pa_cons (pv 0) (pa_cons pe_int pa_nil)))))
    (pss_cons (ps_set (i := 3) sc_law_net.nd rfl (by first | exact Or.inl rfl | exact Or.inr rfl) (pe_op op_add (pv 8) (pe_cal k_law_take hr (by decide) rfl (pa_cons (pv 0) (pa_cons pe_int pa_nil)))))
    (pss_cons (by first | exact (ps_setLc (i := 4) (own := [("_law_k", 12)]) rfl sc_law_net.nd rfl rfl (sw_true rfl rfl rfl (by decide +kernel)) (pi_range1 rfl T.range (pa_cons (pv 8) pa_nil)) (blkOk_by (N := N_law_net) (sc := defScope s_law_net) (by decide +kernel)) (fun _ _ _ _ _ => (pg_name (i := 12) sc_law_net.nd rfl (by first | exact Or.inl rfl | exact Or.inr rfl))) (fun _ _ _ _ _ => pts_nil) (fun _ _ _ _ _ => (pe_tup (pa_cons (pv 12) (pa_cons (pe_op op_mod (pe_callTy call_int1 (by rfl) T.int (by decide +kernel) (pa_cons (pe_op op_add (pv 12) pe_int) pa_nil)) (pv 8)) pa_nil))))) | exact (ps_set (i := 4) sc_law_net.nd rfl (by first | exact Or.inl rfl | exact Or.inr rfl) (pe_lc (own := [("_law_k", 12)]) rfl sc_law_net.nd (pi_range1 rfl T.range (pa_cons (pv 8) pa_nil)) (blkOk_by (N := N_law_net) (sc := defScope s_law_net) (by decide +kernel)) (fun _ _ _ _ _ => (pg_name (i := 12) sc_law_net.nd rfl (by first | exact Or.inl rfl | exact Or.inr rfl))) (fun _ _ _ _ _ => pts_nil) (fun _ _ _ _ _ => (pe_tup (pa_cons (pv 12) (pa_cons (pe_op op_mod (pe_callTy call_int1 (by rfl) T.int (by decide +kernel) (pa_cons (pe_op op_add (pv 12) pe_int) pa_nil)) (pv 8)) pa_nil)))))))
    (pss_one (ps_set (i := 4) sc_law_net.nd rfl (by first | exact Or.inl rfl | exact Or.inr rfl) (pe_op op_cat (pv 4) (pe_cal k_law_free_ties hr (by decide) rfl (pa_cons (pv 0) (pa_cons (pv 3) (pa_cons (pe_cal k_law_take hr (by decide) rfl (pa_cons (pv 0) (pa_cons pe_int pa_nil))) pa_nil)))))))))) (pss_cons (ps_if (pt_cmpR op_eq (pe_cal k_law_take hr (by decide) rfl (pa_cons (pv 0) (pa_cons pe_int pa_nil))) pe_int (by first | exact nomark _ | rfl)) (pss_one (ps_set (i := 3) sc_law_net.nd rfl (by first | exact Or.inl rfl | exact Or.inr rfl) pe_int)) pss_nil)
    (pss_one (ps_set (i := 4) sc_law_net.nd rfl (by first | exact Or.inl rfl | exact Or.inr rfl) (pe_cal k_law_free_ties hr (by decide) rfl (pa_cons (pv 0) (pa_cons (pv 3) (pa_cons (pe_cal k_law_take hr (by decide) rfl (pa_cons (pv 0) (pa_cons pe_int pa_nil))) pa_nil))))))))))))
    (pss_cons (ps_if (PW.pt (pw_and (pt_cmpR op_gt (pe_callB call_len_seq (by rfl) T.len (by decide +kernel) (pa_cons (pv 4) pa_nil)) pe_int (by first | exact nomark _ | rfl)) (pw_and1 (pt_cmpR op_eq (pe_cal k_law_take hr (by decide) rfl (pa_cons (pv 0) (pa_cons pe_int pa_nil))) pe_int (by first | exact nomark _ | rfl))))) (pss_cons (ps_set (i := 9) sc_law_net.nd rfl (by first | exact Or.inl rfl | exact Or.inr rfl) (pe_ix ix_list (pv 4) (pe_cal k_law_take hr (by decide) rfl (pa_cons (pv 0) (pa_cons (pe_callB call_len_seq (by rfl) T.len (by decide +kernel) (pa_cons (pv 4) pa_nil)) pa_nil))) (fun _ _ => rfl)))
    (pss_one (ps_expr (pe_bm PySem.F.plainAttrs_list PySem.F.slot_list_append PySem.F.type_list_append mt_append (pv 4) (pa_cons (pe_tup (pa_cons (pe_ix ix_tup (pv 9) pe_int (fun _ _ => rfl)) (pa_cons (pe_ix ix_tup (pv 9) pe_int (fun _ _ => rfl)) pa_nil))) pa_nil))))) pss_nil)
    (pss_cons (ps_set (i := 10) sc_law_net.nd rfl (by first | exact Or.inl rfl | exact Or.inr rfl) (pe_cal k_law_take hr (by decide) rfl (pa_cons (pv 0) (pa_cons (pv 3) pa_nil))))
    (pss_cons (by first | exact (ps_setLc (i := 4) (own := [("_law_tie", 11)]) rfl sc_law_net.nd rfl rfl (sw_true rfl rfl rfl (by decide +kernel)) (pi_list (pv 4)) (blkOk_by (N := N_law_net) (sc := defScope s_law_net) (by decide +kernel)) (fun _ _ _ _ _ => (pg_name (i := 11) sc_law_net.nd rfl (by first | exact Or.inl rfl | exact Or.inr rfl))) (fun _ _ _ _ _ => pts_nil) (fun _ _ _ _ _ => (pe_tup (pa_cons (pe_op op_mod (pe_callTy call_int1 (by rfl) T.int (by decide +kernel) (pa_cons (pe_op op_add (pe_ix ix_tup (pv 11) pe_int (fun _ _ => rfl)) (pv 10)) pa_nil)) (pv 3)) (pa_cons (pe_op op_mod (pe_callTy call_int1 (by rfl) T.int (by decide +kernel) (pa_cons (pe_op op_add (pe_ix ix_tup (pv 11) pe_int (fun _ _ => rfl)) (pv 10)) pa_nil)) (pv 3)) pa_nil))))) | exact (ps_set (i := 4) sc_law_net.nd rfl (by first | exact Or.inl rfl | exact Or.inr rfl) (pe_lc (own := [("_law_tie", 11)]) rfl sc_law_net.nd (pi_list (pv 4)) (blkOk_by (N := N_law_net) (sc := defScope s_law_net) (by decide +kernel)) (fun _ _ _ _ _ => (pg_name (i := 11) sc_law_net.nd rfl (by first | exact Or.inl rfl | exact Or.inr rfl))) (fun _ _ _ _ _ => pts_nil) (fun _ _ _ _ _ => (pe_tup (pa_cons (pe_op op_mod (pe_callTy call_int1 (by rfl) T.int (by decide +kernel) (pa_cons (pe_op op_add (pe_ix ix_tup (pv 11) pe_int (fun _ _ => rfl)) (pv 10)) pa_nil)) (pv 3)) (pa_cons (pe_op op_mod (pe_callTy call_int1 (by rfl) T.int (by decide +kernel) (pa_cons (pe_op op_add (pe_ix ix_tup (pv 11) pe_int (fun _ _ => rfl)) (pv 10)) pa_nil)) (pv 3)) pa_nil)))))))
    (pss_one (ps_ret (pe_lst (pa_cons (pv 3) (pa_cons (pe_slice sl_list (pv 4) po_none (po_some (pv 1))) pa_nil)))))))))))
abbrev s_lot_of : Stmt := top 30
theorem sc_lot_of : FnScope N_lot_of ["size", "places"] (defScope s_lot_of) := ⟨rfl, rfl, rfl, by decide +kernel, rfl, by decide +kernel, by decide +kernel⟩
theorem der_lot_of {P : Program} {w : World} {K : PySem.W.Frag} {a : Ad} {mg : Str → Option Value} {base : Heap} {f : Addr} {cdv : Value} {A : Around} {outer : List Env} {s : Shared} {H : Hp} {E : XK} (T : Blt mg) (k_good_size : CalX P w K mg base "good_size" 3 ["size"] (SpWX K 1 (W_good_size K a))) (k_good_lot : CalX P w K mg base "good_lot" 3 ["size", "lot"] (SpWX K 2 (W_good_lot K a))) (hr : Room 3 (A.deeper (envOfC "lot_of" (defScope s_lot_of) s.heap.objs.size f cdv))) :
    PSs (cxOf (L2.CX P w) P w K mg base N_lot_of "lot_of" (defScope s_lot_of) f cdv A outer s H E) (defBody s_lot_of) (t_lot_of K a E) := by
  exact (pss_one (ps_ret (pe_calE k_good_lot hr (by decide) rfl (passes_call (takes_of rfl rfl rfl rfl) fun _ _ _ _ h => h) (pa_cons (pe_calE k_good_size hr (by decide) rfl (passes_call (takes_of rfl rfl rfl rfl) fun _ _ _ _ h => h) (pa_cons (pv 0) pa_nil)) (pa_cons (pv 1) pa_nil)))))
abbrev s_lots_between : Stmt := top 37
theorem sc_lots_between : GScope N_lots_between ["inner", "outer"] (defScope s_lots_between) := ⟨rfl, rfl, rfl, by decide +kernel, rfl, by decide +kernel, by decide +kernel⟩
theorem der_lots_between {P : Program} {w : World} {K : PySem.W.Frag} {a : Ad} {mg : Str → Option Value} {base : Heap} {f : Addr} {cdv : Value} {A : Around} {outer : List Env} {s : Shared} {H : Hp} {E : XK} {pn : List (Addr × Obj)} (T : Blt mg) (k_good_lot : CalX P w K mg base "good_lot" 3 ["size", "lot"] (SpWX K 2 (W_good_lot K a))) (k_need_inside : CalX P w K mg base "need_inside" 3 ["inner", "outer"] (SpWX K 2 (W_need_inside K a))) (k_lots_inside : CalX P w K mg base "lots_inside" 2 ["inner", "outer"] (SpWX K 2 (W_lots_inside K a))) (kd_need_listed : CalXd P w K mg base "need_listed" 3 ["size", "most"] [.int 8] (SpWX K 2 (W_need_listed K a))) (hr : Room 3 (A.deeper (envOfC "lots_between" (defScope s_lots_between) s.heap.objs.size f cdv))) :
    GSs (gcxOf P w K mg base N_lots_between "lots_between" (defScope s_lots_between) f cdv A outer s H E pn) (defBody s_lots_between) (t_lots_between K a E) := by
  exact (gss_cons (gs_ps (ps_set (i := 2) sc_lots_between.nd rfl (by first | exact Or.inl rfl | exact Or.inr rfl) (pe_calE k_good_lot hr (by decide) rfl (passes_call (takes_gcx) fun _ _ _ _ h => h) (pa_cons pe_non (pa_cons (pv 0) pa_nil)))))
    (gss_cons (gs_ps (ps_set (i := 3) sc_lots_between.nd rfl (by first | exact Or.inl rfl | exact Or.inr rfl) (pe_calE k_good_lot hr (by decide) rfl (passes_call (takes_gcx) fun _ _ _ _ h => h) (pa_cons pe_non (pa_cons (pv 1) pa_nil)))))
    (gss_cons (gs_ps (ps_expr (pe_calE k_need_inside hr (by decide) rfl (passes_call (takes_gcx) fun _ _ _ _ h => h) (pa_cons (pv 2) (pa_cons (pv 3) pa_nil)))))
    (gss_cons (gs_ps (ps_expr (pe_calED kd_need_listed hr (by decide) rfl (passes_call (takes_gcx) fun _ _ _ _ h => h) (pa_cons (pe_callB call_len_seq (by rfl) T.len (by decide +kernel) (pa_cons (pv 3) pa_nil)) pa_nil))))
    (gss_cons (gs_for (passes_of rfl) rfl (pi_list (pe_calE k_lots_inside hr (by decide) rfl (passes_call (takes_gcx) fun _ _ _ _ h => h) (pa_cons (pv 2) (pa_cons (pv 3) pa_nil)))) (pg_name (i := 4) sc_lots_between.nd rfl (by first | exact Or.inl rfl | exact Or.inr rfl)) (gss_cons (gs_yield (pv 4)) gss_nil)) gss_nil)))))
abbrev s_corners : Stmt := top 38
theorem sc_corners : FnScope N_corners ["size", "one", "other"] (defScope s_corners) := ⟨rfl, rfl, rfl, by decide +kernel, rfl, by decide +kernel, by decide +kernel⟩
theorem der_corners {P : Program} {w : World} {K : PySem.W.Frag} {a : Ad} {mg : Str → Option Value} {base : Heap} {f : Addr} {cdv : Value} {A : Around} {outer : List Env} {s : Shared} {H : Hp} {E : XK} (T : Blt mg) (k_good_size : CalX P w K mg base "good_size" 3 ["size"] (SpWX K 1 (W_good_size K a))) (k_good_lot : CalX P w K mg base "good_lot" 3 ["size", "lot"] (SpWX K 2 (W_good_lot K a))) (k_both : CalX P w K mg base "both" 1 ["one", "other"] (SpWX K 2 (W_both K a))) (k_rest : CalX P w K mg base "rest" 1 ["size", "lot"] (SpWX K 2 (W_rest K a))) (k_common : CalX P w K mg base "common" 1 ["one", "other"] (SpWX K 2 (W_common K a))) (k_minus : CalX P w K mg base "minus" 1 ["one", "other"] (SpWX K 2 (W_minus K a))) (hr : Room 3 (A.deeper (envOfC "corners" (defScope s_corners) s.heap.objs.size f cdv))) :
    PSs (cxOf (L2.CX P w) P w K mg base N_corners "corners" (defScope s_corners) f cdv A outer s H E) (defBody s_corners) (t_corners K a E) := by
  exact (pss_cons (ps_expr (pe_calE k_good_size hr (by decide) rfl (passes_call (takes_of rfl rfl rfl rfl) fun _ _ _ _ h => h) (pa_cons (pv 0) pa_nil)))
    (pss_cons (ps_set (i := 3) sc_corners.nd rfl (by first | exact Or.inl rfl | exact Or.inr rfl) (pe_calE k_good_lot hr (by decide) rfl (passes_call (takes_of rfl rfl rfl rfl) fun _ _ _ _ h => h) (pa_cons (pv 0) (pa_cons (pv 1) pa_nil))))
    (pss_cons (ps_set (i := 4) sc_corners.nd rfl (by first | exact Or.inl rfl | exact Or.inr rfl) (pe_calE k_good_lot hr (by decide) rfl (passes_call (takes_of rfl rfl rfl rfl) fun _ _ _ _ h => h) (pa_cons (pv 0) (pa_cons (pv 2) pa_nil))))
    (pss_cons (ps_set (i := 5) sc_corners.nd rfl (by first | exact Or.inl rfl | exact Or.inr rfl) (pe_calE k_rest hr (by decide) rfl (passes_call (takes_of rfl rfl rfl rfl) fun _ _ _ _ h => h) (pa_cons (pv 0) (pa_cons (pe_calE k_both hr (by decide) rfl (passes_call (takes_of rfl rfl rfl rfl) fun _ _ _ _ h => h) (pa_cons (pv 3) (pa_cons (pv 4) pa_nil))) pa_nil))))
    (pss_one (ps_ret (pe_tup (pa_cons (pe_calE k_common hr (by decide) rfl (passes_call (takes_of rfl rfl rfl rfl) fun _ _ _ _ h => h) (pa_cons (pv 3) (pa_cons (pv 4) pa_nil))) (pa_cons (pe_calE k_minus hr (by decide) rfl (passes_call (takes_of rfl rfl rfl rfl) fun _ _ _ _ h => h) (pa_cons (pv 3) (pa_cons (pv 4) pa_nil))) (pa_cons (pe_calE k_minus hr (by decide) rfl (passes_call (takes_of rfl rfl rfl rfl) fun _ _ _ _ h => h) (pa_cons (pv 4) (pa_cons (pv 3) pa_nil))) (pa_cons (pv 5) pa_nil)))))))))))
abbrev s_Net_gates : Stmt := inClass (top 42) 3
theorem sc_Net_gates : FnScope N_Net_gates ["self", "lot"] (defScope s_Net_gates) := ⟨rfl, rfl, rfl, by decide +kernel, rfl, by decide +kernel, by decide +kernel⟩
theorem der_Net_gates {P : Program} {w : World} {K : PySem.W.Frag} {a : Ad} {mg : Str → Option Value} {base : Heap} {f : Addr} {cdv : Value} {A : Around} {outer : List Env} {s : Shared} {H : Hp} {E : XK} (T : Blt mg) (k_good_lot : CalX P w K mg base "good_lot" 3 ["size", "lot"] (SpWX K 2 (W_good_lot K a))) (hr : Room 3 (A.deeper (envOfC "Net.gates" (defScope s_Net_gates) s.heap.objs.size f cdv))) :
    PSs (cxOf (L2.CX P w) P w K mg base N_Net_gates "Net.gates" (defScope s_Net_gates) f cdv A outer s H E) (defBody s_Net_gates) (t_Net_gates K a E) := by
  exact (pss_cons (ps_set (i := 2) sc_Net_gates.nd rfl (by first | exact Or.inl rfl | exact Or.inr rfl) (pe_calE k_good_lot hr (by decide) rfl (passes_call (takes_of rfl rfl rfl rfl) fun _ _ _ _ h => h) (pa_cons (pe_fld (pv 0) rfl) (pa_cons (pv 1) pa_nil))))
    (pss_one (ps_ret (pe_callTy call_tuple_of (by rfl) T.tuple (by decide +kernel) (pa_cons (pe_lc (own := [("tie", 3), ("a", 4), ("b", 5)]) rfl sc_Net_gates.nd (pi_enumT rfl T.enumerate (pa_cons (pe_fld (pv 0) rfl) pa_nil)) (blkOk_by (N := N_Net_gates) (sc := defScope s_Net_gates) (by decide +kernel)) (fun _ _ _ _ _ => (pg_tup rfl (pgs_cons (pg_name (i := 3) sc_Net_gates.nd rfl (by first | exact Or.inl rfl | exact Or.inr rfl)) (pgs_cons (pg_tup rfl (pgs_cons (pg_name (i := 4) sc_Net_gates.nd rfl (by first | exact Or.inl rfl | exact Or.inr rfl)) (pgs_cons (pg_name (i := 5) sc_Net_gates.nd rfl (by first | exact Or.inl rfl | exact Or.inr rfl)) pgs_nil))) pgs_nil)))) (fun _ _ _ _ _ => (pts_one (PW.pt (pw_and (pt_cmpR op_in_seq (pv 4) (pv 2) (by first | exact nomark _ | rfl)) (pw_and1 (pt_cmpR op_notIn_seq (pv 5) (pv 2) (by first | exact nomark _ | rfl))))))) (fun _ _ _ _ _ => (pv 3))) pa_nil)))))
abbrev s_Net_inner : Stmt := inClass (top 42) 4
theorem sc_Net_inner : FnScope N_Net_inner ["self", "lot"] (defScope s_Net_inner) := ⟨rfl, rfl, rfl, by decide +kernel, rfl, by decide +kernel, by decide +kernel⟩
theorem der_Net_inner {P : Program} {w : World} {K : PySem.W.Frag} {a : Ad} {mg : Str → Option Value} {base : Heap} {f : Addr} {cdv : Value} {A : Around} {outer : List Env} {s : Shared} {H : Hp} {E : XK} (T : Blt mg) (k_good_lot : CalX P w K mg base "good_lot" 3 ["size", "lot"] (SpWX K 2 (W_good_lot K a))) (hr : Room 3 (A.deeper (envOfC "Net.inner" (defScope s_Net_inner) s.heap.objs.size f cdv))) :
    PSs (cxOf (L2.CX P w) P w K mg base N_Net_inner "Net.inner" (defScope s_Net_inner) f cdv A outer s H E) (defBody s_Net_inner) (t_Net_inner K a E) := by
  exact (pss_cons (ps_set (i := 2) sc_Net_inner.nd rfl (by first | exact Or.inl rfl | exact Or.inr rfl) (pe_calE k_good_lot hr (by decide) rfl (passes_call (takes_of rfl rfl rfl rfl) fun _ _ _ _ h => h) (pa_cons (pe_fld (pv 0) rfl) (pa_cons (pv 1) pa_nil))))
    (pss_one (ps_ret (pe_callTy call_tuple_of (by rfl) T.tuple (by decide +kernel) (pa_cons (pe_lc (own := [("tie", 3), ("a", 4), ("b", 5)]) rfl sc_Net_inner.nd (pi_enumT rfl T.enumerate (pa_cons (pe_fld (pv 0) rfl) pa_nil)) (blkOk_by (N := N_Net_inner) (sc := defScope s_Net_inner) (by decide +kernel)) (fun _ _ _ _ _ => (pg_tup rfl (pgs_cons (pg_name (i := 3) sc_Net_inner.nd rfl (by first | exact Or.inl rfl | exact Or.inr rfl)) (pgs_cons (pg_tup rfl (pgs_cons (pg_name (i := 4) sc_Net_inner.nd rfl (by first | exact Or.inl rfl | exact Or.inr rfl)) (pgs_cons (pg_name (i := 5) sc_Net_inner.nd rfl (by first | exact Or.inl rfl | exact Or.inr rfl)) pgs_nil))) pgs_nil)))) (fun _ _ _ _ _ => (pts_one (PW.pt (pw_and (pt_cmpR op_in_seq (pv 4) (pv 2) (by first | exact nomark _ | rfl)) (pw_and1 (pt_cmpR op_in_seq (pv 5) (pv 2) (by first | exact nomark _ | rfl))))))) (fun _ _ _ _ _ => (pv 3))) pa_nil)))))
abbrev s_Net_between : Stmt := inClass (top 42) 5
theorem sc_Net_between : FnScope N_Net_between ["self", "one", "other"] (defScope s_Net_between) := ⟨rfl, rfl, rfl, by decide +kernel, rfl, by decide +kernel, by decide +kernel⟩
theorem der_Net_between {P : Program} {w : World} {K : PySem.W.Frag} {a : Ad} {mg : Str → Option Value} {base : Heap} {f : Addr} {cdv : Value} {A : Around} {outer : List Env} {s : Shared} {H : Hp} {E : XK} (T : Blt mg) (k_good_lot : CalX P w K mg base "good_lot" 3 ["size", "lot"] (SpWX K 2 (W_good_lot K a))) (k_need_apart : CalX P w K mg base "need_apart" 3 ["one", "other"] (SpWX K 2 (W_need_apart K a))) (hr : Room 3 (A.deeper (envOfC "Net.between" (defScope s_Net_between) s.heap.objs.size f cdv))) :
    PSs (cxOf (L2.CX P w) P w K mg base N_Net_between "Net.between" (defScope s_Net_between) f cdv A outer s H E) (defBody s_Net_between) (t_Net_between K a E) := by
  exact (pss_cons (ps_set (i := 3) sc_Net_between.nd rfl (by first | exact Or.inl rfl | exact Or.inr rfl) (pe_calE k_good_lot hr (by decide) rfl (passes_call (takes_of rfl rfl rfl rfl) fun _ _ _ _ h => h) (pa_cons (pe_fld (pv 0) rfl) (pa_cons (pv 1) pa_nil))))
    (pss_cons (ps_set (i := 4) sc_Net_between.nd rfl (by first | exact Or.inl rfl | exact Or.inr rfl) (pe_calE k_good_lot hr (by decide) rfl (passes_call (takes_of rfl rfl rfl rfl) fun _ _ _ _ h => h) (pa_cons (pe_fld (pv 0) rfl) (pa_cons (pv 2) pa_nil))))
    (pss_cons (ps_expr (pe_calE k_need_apart hr (by decide) rfl (passes_call (takes_of rfl rfl rfl rfl) fun _ _ _ _ h => h) (pa_cons (pv 3) (pa_cons (pv 4) pa_nil))))
    (pss_one (ps_ret (pe_callTy call_tuple_of (by rfl) T.tuple (by decide +kernel) (pa_cons (pe_lc (own := [("tie", 5), ("a", 6), ("b", 7)]) rfl sc_Net_between.nd (pi_enumT rfl T.enumerate (pa_cons (pe_fld (pv 0) rfl) pa_nil)) (blkOk_by (N := N_Net_between) (sc := defScope s_Net_between) (by decide +kernel)) (fun _ _ _ _ _ => (pg_tup rfl (pgs_cons (pg_name (i := 5) sc_Net_between.nd rfl (by first | exact Or.inl rfl | exact Or.inr rfl)) (pgs_cons (pg_tup rfl (pgs_cons (pg_name (i := 6) sc_Net_between.nd rfl (by first | exact Or.inl rfl | exact Or.inr rfl)) (pgs_cons (pg_name (i := 7) sc_Net_between.nd rfl (by first | exact Or.inl rfl | exact Or.inr rfl)) pgs_nil))) pgs_nil)))) (fun _ _ _ _ _ => (pts_one (PW.pt (pw_or (PW.pt (pw_and (pt_cmpR op_in_seq (pv 6) (pv 3) (by first | exact nomark _ | rfl)) (pw_and1 (pt_cmpR op_in_seq (pv 7) (pv 4) (by first | exact nomark _ | rfl))))) (pw_or1 (PW.pt (pw_and (pt_cmpR op_in_seq (pv 6) (pv 4) (by first | exact nomark _ | rfl)) (pw_and1 (pt_cmpR op_in_seq (pv 7) (pv 3) (by first | exact nomark _ | rfl)))))))))) (fun _ _ _ _ _ => (pv 5))) pa_nil)))))))
abbrev s_Twoway_gates : Stmt := inClass (top 44) 1
theorem sc_Twoway_gates : FnScope N_Twoway_gates ["self", "lot"] (defScope s_Twoway_gates) := ⟨rfl, rfl, rfl, by decide +kernel, rfl, by decide +kernel, by decide +kernel⟩
theorem der_Twoway_gates {P : Program} {w : World} {K : PySem.W.Frag} {a : Ad} {mg : Str → Option Value} {base : Heap} {f : Addr} {cdv : Value} {A : Around} {outer : List Env} {s : Shared} {H : Hp} {E : XK} (T : Blt mg) (k_good_lot : CalX P w K mg base "good_lot" 3 ["size", "lot"] (SpWX K 2 (W_good_lot K a))) (hr : Room 3 (A.deeper (envOfC "Twoway.gates" (defScope s_Twoway_gates) s.heap.objs.size f cdv))) :
    PSs (cxOf (L2.CX P w) P w K mg base N_Twoway_gates "Twoway.gates" (defScope s_Twoway_gates) f cdv A outer s H E) (defBody s_Twoway_gates) (t_Twoway_gates K a E) := by
  exact (pss_cons (ps_set (i := 2) sc_Twoway_gates.nd rfl (by first | exact Or.inl rfl | exact Or.inr rfl) (pe_calE k_good_lot hr (by decide) rfl (passes_call (takes_of rfl rfl rfl rfl) fun _ _ _ _ h => h) (pa_cons (pe_fld (pv 0) rfl) (pa_cons (pv 1) pa_nil))))
    (pss_one (ps_ret (pe_callTy call_tuple_of (by rfl) T.tuple (by decide +kernel) (pa_cons (pe_lc (own := [("tie", 3), ("a", 4), ("b", 5)]) rfl sc_Twoway_gates.nd (pi_enumT rfl T.enumerate (pa_cons (pe_fld (pv 0) rfl) pa_nil)) (blkOk_by (N := N_Twoway_gates) (sc := defScope s_Twoway_gates) (by decide +kernel)) (fun _ _ _ _ _ => (pg_tup rfl (pgs_cons (pg_name (i := 3) sc_Twoway_gates.nd rfl (by first | exact Or.inl rfl | exact Or.inr rfl)) (pgs_cons (pg_tup rfl (pgs_cons (pg_name (i := 4) sc_Twoway_gates.nd rfl (by first | exact Or.inl rfl | exact Or.inr rfl)) (pgs_cons (pg_name (i := 5) sc_Twoway_gates.nd rfl (by first | exact Or.inl rfl | exact Or.inr rfl)) pgs_nil))) pgs_nil)))) (fun _ _ _ _ _ => (pts_one (pt_cmpR op_ne (pe_cmpR op_in_seq (pv 4) (pv 2) (by first | exact nomark _ | rfl)) (pe_cmpR op_in_seq (pv 5) (pv 2) (by first | exact nomark _ | rfl)) (by first | exact nomark _ | rfl)))) (fun _ _ _ _ _ => (pv 3))) pa_nil)))))
abbrev s_good_ends : Stmt := top 45
theorem sc_good_ends : FnScope N_good_ends ["size", "ties"] (defScope s_good_ends) := ⟨rfl, rfl, rfl, by decide +kernel, rfl, by decide +kernel, by decide +kernel⟩
theorem der_good_ends {P : Program} {w : World} {K : PySem.W.Frag} {a : Ad} {mg : Str → Option Value} {base : Heap} {f : Addr} {cdv : Value} {A : Around} {outer : List Env} {s : Shared} {H : Hp} {E : XK} (T : Blt mg) (k_is_row : CalX P w K mg base "is_row" 1 ["value"] (SpWX K 1 (W_is_row K a))) (k_is_pair : CalX P w K mg base "is_pair" 3 ["size", "value"] (SpWX K 2 (W_is_pair K a))) (e_BadNet : RzOk P w K mg base (a.er "BadNet") (a.ec "BadNet") "BadNet" "at") {tk_MOST_TIES : Tok} (c_MOST_TIES : mg "MOST_TIES" = some (.int 40 tk_MOST_TIES)) (hr : Room 3 (A.deeper (envOfC "good_ends" (defScope s_good_ends) s.heap.objs.size f cdv))) :
    PSs (cxOf (L2.CX P w) P w K mg base N_good_ends "good_ends" (defScope s_good_ends) f cdv A outer s H E) (defBody s_good_ends) (t_good_ends K a E) := by
  exact (pss_cons (ps_if (PW.pt (pw_or (pt_not (pt_val (pe_calE k_is_row hr (by decide) rfl (passes_call (takes_of rfl rfl rfl rfl) fun _ _ _ _ h => h) (pa_cons (pv 1) pa_nil)))) (pw_or1 (pt_cmpR op_gt (pe_callB call_len_seq (by rfl) T.len (by decide +kernel) (pa_cons (pv 1) pa_nil)) (pe_glob rfl c_MOST_TIES ⟨_, rfl⟩) (by first | exact nomark _ | rfl))))) (pss_one (ps_rz rfl (takes_of rfl rfl rfl rfl) e_BadNet hr (by decide) (pa_cons (pe_un un_neg pe_int) pa_nil))) pss_nil)
    (pss_cons (ps_for (passes_of rfl) rfl (pi_enum rfl T.enumerate (pa_cons (pv 1) pa_nil)) (pg_tup rfl (pgs_cons (pg_name (i := 2) sc_good_ends.nd rfl (by first | exact Or.inl rfl | exact Or.inr rfl)) (pgs_cons (pg_name (i := 3) sc_good_ends.nd rfl (by first | exact Or.inl rfl | exact Or.inr rfl)) pgs_nil))) (pss_one (ps_if (pt_not (pt_val (pe_calE k_is_pair hr (by decide) rfl (passes_call (takes_of rfl rfl rfl rfl) fun _ _ _ _ h => h) (pa_cons (pv 0) (pa_cons (pv 3) pa_nil))))) (pss_one (ps_rz rfl (takes_of rfl rfl rfl rfl) e_BadNet hr (by decide) (pa_cons (pv 2) pa_nil))) pss_nil)))
    (pss_one (ps_ret (pe_callTy call_tuple_of (by rfl) T.tuple (by decide +kernel) (pa_cons (pe_lc (own := [("pair", 3)]) rfl sc_good_ends.nd (pi_list (pv 1)) (blkOk_by (N := N_good_ends) (sc := defScope s_good_ends) (by decide +kernel)) (fun _ _ _ _ _ => (pg_name (i := 3) sc_good_ends.nd rfl (by first | exact Or.inl rfl | exact Or.inr rfl))) (fun _ _ _ _ _ => pts_nil) (fun _ _ _ _ _ => (pe_callTy call_tuple_of (by rfl) T.tuple (by decide +kernel) (pa_cons (pv 3) pa_nil)))) pa_nil))))))
abbrev s_world_of : Stmt := top 49
theorem sc_world_of : FnScope N_world_of ["net", "world"] (defScope s_world_of) := ⟨rfl, rfl, rfl, by decide +kernel, rfl, by decide +kernel, by decide +kernel⟩
theorem der_world_of {P : Program} {w : World} {K : PySem.W.Frag} {a : Ad} {mg : Str → Option Value} {base : Heap} {f : Addr} {cdv : Value} {A : Around} {outer : List Env} {s : Shared} {H : Hp} {E : XK} (T : Blt mg) (k_good_world : CalX P w K mg base "good_world" 3 ["many", "world"] (SpWX K 2 (W_good_world K a))) (r_many : ∀ C sp, R_many K a C sp → CalP P w K mg base C "many" 1 sp) (hr : Room 3 (A.deeper (envOfC "world_of" (defScope s_world_of) s.heap.objs.size f cdv))) :
    PSs (cxOf (L2.CX P w) P w K mg base N_world_of "world_of" (defScope s_world_of) f cdv A outer s H E) (defBody s_world_of) (t_world_of K a E) := by
  exact (pss_one (ps_ret (pe_calE k_good_world hr (by decide) rfl (passes_call (takes_of rfl rfl rfl rfl) fun _ _ _ _ h => h) (pa_cons (pe_propU r_many (pv 0) hr (by decide)) (pa_cons (pv 1) pa_nil)))))
abbrev s_law_any_net : Stmt := top 69
theorem sc_law_any_net : FnScope N_law_any_net ["_law_draws_here"] (defScope s_law_any_net) := ⟨rfl, rfl, rfl, by decide +kernel, rfl, by decide +kernel, by decide +kernel⟩
theorem der_law_any_net {P : Program} {w : World} {K : PySem.W.Frag} {a : Ad} {mg : Str → Option Value} {base : Heap} {f : Addr} {cdv : Value} {A : Around} {outer : List Env} {s : Shared} {H : Hp} {E : XK} (T : Blt mg) (k_law_net : Cal P w K mg base "_law_net" 3 ["_law_draws_here", "_law_most"] (SpWD K 1 (W_law_net K a))) (k_law_take : Cal P w K mg base "_law_take" 1 ["_law_draws_here", "_law_many"] (SpTake K)) (k_law_free_ties : Cal P w K mg base "_law_free_ties" 2 ["_law_draws_here", "_law_size", "_law_many"] (SpWDL K 2 (W_law_free_ties K a))) (hr : Room 3 (A.deeper (envOfC "_law_any_net" (defScope s_law_any_net) s.heap.objs.size f cdv))) :
    PSs (cxOf CX0 P w K mg base N_law_any_net "_law_any_net" (defScope s_law_any_net) f cdv A outer s H E).nox (defBody s_law_any_net) (t_law_any_net K a) := by
  exact (pss_cons (ps_set (i := 1) sc_law_any_net.nd rfl (by first | exact Or.inl rfl | exact Or.inr rfl) (pe_cal k_law_net hr (by decide) rfl (pa_cons (pv 0) (pa_cons pe_int pa_nil))))
    (pss_cons (ps_if (pt_cmpR op_eq (pe_cal k_law_take hr (by decide) rfl (pa_cons (pv 0) (pa_cons pe_int pa_nil))) pe_int (by first | exact nomark _ | rfl)) (pss_cons (ps_set (i := 2) sc_law_any_net.nd rfl (by first | exact Or.inl rfl | exact Or.inr rfl) (pe_op op_add pe_int (pe_cal k_law_take hr (by decide) rfl (pa_cons (pv 0) (pa_cons pe_int pa_nil)))))
    (pss_one (ps_ret (pe_lst (pa_cons (pv 2) (pa_cons (pe_cal k_law_free_ties hr (by decide) rfl (pa_cons (pv 0) (pa_cons (pv 2) (pa_cons (pe_cal k_law_take hr (by decide) rfl (pa_cons (pv 0) (pa_cons pe_int pa_nil))) pa_nil)))) pa_nil)))))) pss_nil)
    (pss_one (ps_ret (pv 1)))))
abbrev s_law_twoway_told : Stmt := top 77
theorem sc_law_twoway_told : FnScope N_law_twoway_told ["_law_net_here"] (defScope s_law_twoway_told) := ⟨rfl, rfl, rfl, by decide +kernel, rfl, by decide +kernel, by decide +kernel⟩
theorem der_law_twoway_told {P : Program} {w : World} {K : PySem.W.Frag} {a : Ad} {mg : Str → Option Value} {base : Heap} {f : Addr} {cdv : Value} {A : Around} {outer : List Env} {s : Shared} {H : Hp} {E : XK} (T : Blt mg) (k_check_twoway : CalX P w K mg base "check_twoway" 3 ["net"] (SpWX K 1 (W_check_twoway K a))) (c_GatesError : mg "GatesError" = some (.ref (a.ec "GatesError"))) (c_NotTwoway : mg "NotTwoway" = some (.ref (a.ec "NotTwoway"))) (hr : Room 3 (A.deeper (envOfC "_law_twoway_told" (defScope s_law_twoway_told) s.heap.objs.size f cdv))) :
    PSs (cxOf CX0 P w K mg base N_law_twoway_told "_law_twoway_told" (defScope s_law_twoway_told) f cdv A outer s H E).nox (defBody s_law_twoway_told) (t_law_twoway_told K a) := by
  exact (pss_cons (ps_set (i := 1) sc_law_twoway_told.nd rfl (by first | exact Or.inl rfl | exact Or.inr rfl) pe_non)
    (pss_cons (ps_try_nm (tb := fun W => (tAsg (tCallS (SpWX K 1 (W_check_twoway K a)) (WE W) (tCons (tVar 0) tNil)) (gName 1))) (ks := [⟨.ref (a.ec "NotTwoway"), 2, fun ea cls d => (tAsg (tCB (rIsEx K ea cls d) (tCons (tVar 2) (tCons (tC (.ref (a.ec "GatesError"))) tNil))) (gName 1))⟩]) (Wo := fun _ _ _ _ => False) rfl rfl sc_law_twoway_told.nd takes0 (fun W pn xe tk _ => (pss_one (ps_set (i := 1) sc_law_twoway_told.nd rfl (by first | exact Or.inl rfl | exact Or.inr rfl) (pe_calS k_check_twoway hr (by decide) rfl tk (pa_cons (pv 0) pa_nil))))) (.cons (k := ⟨.ref (a.ec "NotTwoway"), 2, fun ea cls d => (tAsg (tCB (rIsEx K ea cls d) (tCons (tVar 2) (tCons (tC (.ref (a.ec "GatesError"))) tNil))) (gName 1))⟩) ⟨rfl, by decide, Or.inl c_NotTwoway⟩ rfl rfl (fun ea oe cls d pn hz hf => (pss_one (ps_set (i := 1) sc_law_twoway_told.nd rfl (by first | exact Or.inl rfl | exact Or.inr rfl) (pe_callB (call_isEx hz hf) (by rfl) T.isinstance (by decide +kernel) (pa_cons (pv 2) (pa_cons (pe_glob (by rfl) c_GatesError (by rfl)) pa_nil)))))) .nil))
    (pss_one (ps_ret (pv 1)))))
abbrev s_crosses : Stmt := top 39
theorem sc_crosses : FnScope N_crosses ["size", "one", "other"] (defScope s_crosses) := ⟨rfl, rfl, rfl, by decide +kernel, rfl, by decide +kernel, by decide +kernel⟩
theorem der_crosses {P : Program} {w : World} {K : PySem.W.Frag} {a : Ad} {mg : Str → Option Value} {base : Heap} {f : Addr} {cdv : Value} {A : Around} {outer : List Env} {s : Shared} {H : Hp} {E : XK} (T : Blt mg) (k_corners : CalX P w K mg base "corners" 4 ["size", "one", "other"] (SpWX K 3 (W_corners K a))) (hr : Room 4 (A.deeper (envOfC "crosses" (defScope s_crosses) s.heap.objs.size f cdv))) :
    PSs (cxOf (L2.CX P w) P w K mg base N_crosses "crosses" (defScope s_crosses) f cdv A outer s H E) (defBody s_crosses) (t_crosses K a E) := by
  exact (pss_one (ps_ret (pe_callB (cr_all rfl) (by rfl) T.all (by decide +kernel) (pa_cons (pe_lc (own := [("corner", 3)]) rfl sc_crosses.nd (pi_tup (pe_calE k_corners hr (by decide) rfl (passes_call (takes_of rfl rfl rfl rfl) fun _ _ _ _ h => h) (pa_cons (pv 0) (pa_cons (pv 1) (pa_cons (pv 2) pa_nil))))) (blkOk_by (N := N_crosses) (sc := defScope s_crosses) (by decide +kernel)) (fun _ _ _ _ _ => (pg_name (i := 3) sc_crosses.nd rfl (by first | exact Or.inl rfl | exact Or.inr rfl))) (fun _ _ _ _ _ => pts_nil) (fun _ _ _ _ _ => (pe_cmpR op_gt (pe_callB call_len_seq (by rfl) T.len (by decide +kernel) (pa_cons (pv 3) pa_nil)) pe_int (by first | exact nomark _ | rfl)))) pa_nil))))
abbrev s_Net__init_ : Stmt := inClass (top 42) 1
theorem sc_Net__init_ : FnScope N_Net__init_ ["self", "size", "ties"] (defScope s_Net__init_) := ⟨rfl, rfl, rfl, by decide +kernel, rfl, by decide +kernel, by decide +kernel⟩
theorem der_Net__init_ {P : Program} {w : World} {K : PySem.W.Frag} {a : Ad} {mg : Str → Option Value} {base : Heap} {f : Addr} {cdv : Value} {A : Around} {outer : List Env} {s : Shared} {H : Hp} {E : XK} (T : Blt mg) (k_good_size : CalX P w K mg base "good_size" 3 ["size"] (SpWX K 1 (W_good_size K a))) (k_good_ends : CalX P w K mg base "good_ends" 4 ["size", "ties"] (SpWX K 2 (W_good_ends K a))) (hr : Room 4 (A.deeper (envOfC "Net.__init__" (defScope s_Net__init_) s.heap.objs.size f cdv))) :
    PSs (cxOf (L2.CX P w) P w K mg base N_Net__init_ "Net.__init__" (defScope s_Net__init_) f cdv A outer s H E) (defBody s_Net__init_) (t_Net__init_ K a E) := by
  exact (pss_cons (ps_fld (pv 0) (pe_calE k_good_size hr (by decide) rfl (passes_call (takes_of rfl rfl rfl rfl) fun _ _ _ _ h => h) (pa_cons (pv 1) pa_nil)) rfl)
    (pss_one (ps_fld (pv 0) (pe_calE k_good_ends hr (by decide) rfl (passes_call (takes_of rfl rfl rfl rfl) fun _ _ _ _ h => h) (pa_cons (pv 1) (pa_cons (pv 2) pa_nil))) rfl)))
abbrev s_cost : Stmt := top 51
theorem sc_cost : FnScope N_cost ["net", "world", "lot"] (defScope s_cost) := ⟨rfl, rfl, rfl, by decide +kernel, rfl, by decide +kernel, by decide +kernel⟩
theorem der_cost {P : Program} {w : World} {K : PySem.W.Frag} {a : Ad} {mg : Str → Option Value} {base : Heap} {f : Addr} {cdv : Value} {A : Around} {outer : List Env} {s : Shared} {H : Hp} {E : XK} (T : Blt mg) (k_world_of : CalX P w K mg base "world_of" 4 ["net", "world"] (SpWX K 2 (W_world_of K a))) (k_amount : CalX P w K mg base "amount" 1 ["world", "ties"] (SpWX K 2 (W_amount K a))) (r_gates : ∀ C sp, R_gates K a C sp → CalMX P w K mg base C "gates" 4 ["self", "lot"] sp) (hr : Room 4 (A.deeper (envOfC "cost" (defScope s_cost) s.heap.objs.size f cdv))) :
    PSs (cxOf (L2.CX P w) P w K mg base N_cost "cost" (defScope s_cost) f cdv A outer s H E) (defBody s_cost) (t_cost K a E) := by
  exact (pss_cons (ps_set (i := 3) sc_cost.nd rfl (by first | exact Or.inl rfl | exact Or.inr rfl) (pe_calE k_world_of hr (by decide) rfl (passes_call (takes_of rfl rfl rfl rfl) fun _ _ _ _ h => h) (pa_cons (pv 0) (pa_cons (pv 1) pa_nil))))
    (pss_one (ps_ret (pe_calE k_amount hr (by decide) rfl (passes_call (takes_of rfl rfl rfl rfl) fun _ _ _ _ h => h) (pa_cons (pv 3) (pa_cons (pe_methUX r_gates (pv 0) hr (by decide) (passes_call (takes_of rfl rfl rfl rfl) fun _ _ _ _ h => h) (pa_cons (pv 2) pa_nil)) pa_nil))))))
abbrev s_costs_less : Stmt := top 54
theorem sc_costs_less : FnScope N_costs_less ["net", "world", "plus", "less"] (defScope s_costs_less) := ⟨rfl, rfl, rfl, by decide +kernel, rfl, by decide +kernel, by decide +kernel⟩
theorem der_costs_less {P : Program} {w : World} {K : PySem.W.Frag} {a : Ad} {mg : Str → Option Value} {base : Heap} {f : Addr} {cdv : Value} {A : Around} {outer : List Env} {s : Shared} {H : Hp} {E : XK} (T : Blt mg) (k_cost : CalX P w K mg base "cost" 5 ["net", "world", "lot"] (SpWX K 3 (W_cost K a))) (hr : Room 5 (A.deeper (envOfC "costs_less" (defScope s_costs_less) s.heap.objs.size f cdv))) :
    PSs (cxOf (L2.CX P w) P w K mg base N_costs_less "costs_less" (defScope s_costs_less) f cdv A outer s H E) (defBody s_costs_less) (t_costs_less K a E) := by
  exact (pss_cons (ps_set (i := 4) sc_costs_less.nd rfl (by first | exact Or.inl rfl | exact Or.inr rfl) (pe_callB (cr_sum rfl) (by rfl) T.sum (by decide +kernel) (pa_cons (pe_lc (own := [("lot", 5)]) rfl sc_costs_less.nd (pi_tup (pv 2)) (blkOk_by (N := N_costs_less) (sc := defScope s_costs_less) (by decide +kernel)) (fun _ _ _ _ _ => (pg_name (i := 5) sc_costs_less.nd rfl (by first | exact Or.inl rfl | exact Or.inr rfl))) (fun _ _ _ _ _ => pts_nil) (fun _ _ _ _ _ => (pe_calX k_cost hr (by decide) rfl (pa_cons (pv 0) (pa_cons (pv 1) (pa_cons (pv 5) pa_nil)))))) pa_nil)))
    (pss_one (ps_ret (pe_op op_sub (pv 4) (pe_callB (cr_sum rfl) (by rfl) T.sum (by decide +kernel) (pa_cons (pe_lc (own := [("lot", 5)]) rfl sc_costs_less.nd (pi_tup (pv 3)) (blkOk_by (N := N_costs_less) (sc := defScope s_costs_less) (by decide +kernel)) (fun _ _ _ _ _ => (pg_name (i := 5) sc_costs_less.nd rfl (by first | exact Or.inl rfl | exact Or.inr rfl))) (fun _ _ _ _ _ => pts_nil) (fun _ _ _ _ _ => (pe_calX k_cost hr (by decide) rfl (pa_cons (pv 0) (pa_cons (pv 1) (pa_cons (pv 5) pa_nil)))))) pa_nil))))))
abbrev s_law_four : Stmt := top 79
theorem sc_law_four : FnScope N_law_four ["_law_draws_here", "_law_net_here", "_law_world_here", "_law_one", "_law_other"] (defScope s_law_four) := ⟨rfl, rfl, rfl, by decide +kernel, rfl, by decide +kernel, by decide +kernel⟩
theorem der_law_four {P : Program} {w : World} {K : PySem.W.Frag} {a : Ad} {mg : Str → Option Value} {base : Heap} {f : Addr} {cdv : Value} {A : Around} {outer : List Env} {s : Shared} {H : Hp} {E : XK} (T : Blt mg) (k_law_handed : Cal P w K mg base "_law_handed" 2 ["_law_draws_here", "_law_lot_here"] (SpWD K 1 (W_law_handed K a))) (k_cost : CalX P w K mg base "cost" 5 ["net", "world", "lot"] (SpWX K 3 (W_cost K a))) (hr : Room 5 (A.deeper (envOfC "_law_four" (defScope s_law_four) s.heap.objs.size f cdv))) :
    PSs (cxOf CX0 P w K mg base N_law_four "_law_four" (defScope s_law_four) f cdv A outer s H E).nox (defBody s_law_four) (t_law_four K a) := by
  exact (pss_cons (by first | exact (ps_setLc (i := 5) (own := [("_law_place", 8)]) rfl sc_law_four.nd rfl rfl (sw_true rfl rfl rfl (by decide +kernel)) (pi_list (pv 3)) (blkOk_by (N := N_law_four) (sc := defScope s_law_four) (by decide +kernel)) (fun _ _ _ _ _ => (pg_name (i := 8) sc_law_four.nd rfl (by first | exact Or.inl rfl | exact Or.inr rfl))) (fun _ _ _ _ _ => (pts_one (pt_cmpR op_in_seq (pv 8) (pv 4) (by first | exact nomark _ | rfl)))) (fun _ _ _ _ _ => (pv 8))) | exact (ps_set (i := 5) sc_law_four.nd rfl (by first | exact Or.inl rfl | exact Or.inr rfl) (pe_lc (own := [("_law_place", 8)]) rfl sc_law_four.nd (pi_list (pv 3)) (blkOk_by (N := N_law_four) (sc := defScope s_law_four) (by decide +kernel)) (fun _ _ _ _ _ => (pg_name (i := 8) sc_law_four.nd rfl (by first | exact Or.inl rfl | exact Or.inr rfl))) (fun _ _ _ _ _ => (pts_one (pt_cmpR op_in_seq (pv 8) (pv 4) (by first | exact nomark _ | rfl)))) (fun _ _ _ _ _ => (pv 8)))))
    (pss_cons (by first | exact (ps_setLc (i := 6) (own := [("_law_place", 8)]) rfl sc_law_four.nd rfl rfl (sw_true rfl rfl rfl (by decide +kernel)) (pi_range1 rfl T.range (pa_cons (pe_fld (pv 1) rfl) pa_nil)) (blkOk_by (N := N_law_four) (sc := defScope s_law_four) (by decide +kernel)) (fun _ _ _ _ _ => (pg_name (i := 8) sc_law_four.nd rfl (by first | exact Or.inl rfl | exact Or.inr rfl))) (fun _ _ _ _ _ => (pts_one (PW.pt (pw_or (pt_cmpR op_in_seq (pv 8) (pv 3) (by first | exact nomark _ | rfl)) (pw_or1 (pt_cmpR op_in_seq (pv 8) (pv 4) (by first | exact nomark _ | rfl))))))) (fun _ _ _ _ _ => (pv 8))) | exact (ps_set (i := 6) sc_law_four.nd rfl (by first | exact Or.inl rfl | exact Or.inr rfl) (pe_lc (own := [("_law_place", 8)]) rfl sc_law_four.nd (pi_range1 rfl T.range (pa_cons (pe_fld (pv 1) rfl) pa_nil)) (blkOk_by (N := N_law_four) (sc := defScope s_law_four) (by decide +kernel)) (fun _ _ _ _ _ => (pg_name (i := 8) sc_law_four.nd rfl (by first | exact Or.inl rfl | exact Or.inr rfl))) (fun _ _ _ _ _ => (pts_one (PW.pt (pw_or (pt_cmpR op_in_seq (pv 8) (pv 3) (by first | exact nomark _ | rfl)) (pw_or1 (pt_cmpR op_in_seq (pv 8) (pv 4) (by first | exact nomark _ | rfl))))))) (fun _ _ _ _ _ => (pv 8)))))
    (pss_cons (ps_set (i := 7) sc_law_four.nd rfl (by first | exact Or.inl rfl | exact Or.inr rfl) (pe_op op_add (pe_calX k_cost hr (by decide) rfl (pa_cons (pv 1) (pa_cons (pv 2) (pa_cons (pe_cal k_law_handed hr (by decide) rfl (pa_cons (pv 0) (pa_cons (pv 3) pa_nil))) pa_nil)))) (pe_calX k_cost hr (by decide) rfl (pa_cons (pv 1) (pa_cons (pv 2) (pa_cons (pe_cal k_law_handed hr (by decide) rfl (pa_cons (pv 0) (pa_cons (pv 4) pa_nil))) pa_nil))))))
    (pss_one (ps_ret (pe_op op_sub (pe_op op_sub (pv 7) (pe_calX k_cost hr (by decide) rfl (pa_cons (pv 1) (pa_cons (pv 2) (pa_cons (pv 5) pa_nil))))) (pe_calX k_cost hr (by decide) rfl (pa_cons (pv 1) (pa_cons (pv 2) (pa_cons (pv 6) pa_nil))))))))))
abbrev s_law_corners_right : Stmt := top 81
theorem sc_law_corners_right : FnScope N_law_corners_right ["_law_draws_here", "_law_size", "_law_one", "_law_other"] (defScope s_law_corners_right) := ⟨rfl, rfl, rfl, by decide +kernel, rfl, by decide +kernel, by decide +kernel⟩
theorem der_law_corners_right {P : Program} {w : World} {K : PySem.W.Frag} {a : Ad} {mg : Str → Option Value} {base : Heap} {f : Addr} {cdv : Value} {A : Around} {outer : List Env} {s : Shared} {H : Hp} {E : XK} (T : Blt mg) (k_law_handed : Cal P w K mg base "_law_handed" 2 ["_law_draws_here", "_law_lot_here"] (SpWD K 1 (W_law_handed K a))) (k_corners : CalX P w K mg base "corners" 4 ["size", "one", "other"] (SpWX K 3 (W_corners K a))) (k_law_rest : Cal P w K mg base "_law_rest" 1 ["_law_size", "_law_lot_here"] (SpW K 2 (W_law_rest K a))) (k_law_lot_ok : Cal P w K mg base "_law_lot_ok" 2 ["_law_value", "_law_size"] (SpW K 2 (W_law_lot_ok K a))) (k_crosses : CalX P w K mg base "crosses" 5 ["size", "one", "other"] (SpWX K 3 (W_crosses K a))) (hr : Room 5 (A.deeper (envOfC "_law_corners_right" (defScope s_law_corners_right) s.heap.objs.size f cdv))) :
    PSs (cxOf CX0 P w K mg base N_law_corners_right "_law_corners_right" (defScope s_law_corners_right) f cdv A outer s H E).nox (defBody s_law_corners_right) (t_law_corners_right K a) := by
  exact (pss_cons (ps_set (i := 4) sc_law_corners_right.nd rfl (by first | exact Or.inl rfl | exact Or.inr rfl) (pe_calX k_corners hr (by decide) rfl (pa_cons (pv 1) (pa_cons (pe_cal k_law_handed hr (by decide) rfl (pa_cons (pv 0) (pa_cons (pv 2) pa_nil))) (pa_cons (pv 3) pa_nil)))))
    (pss_cons (ps_set (i := 5) sc_law_corners_right.nd rfl (by first | exact Or.inl rfl | exact Or.inr rfl) (pe_calX k_corners hr (by decide) rfl (pa_cons (pv 1) (pa_cons (pe_cal k_law_handed hr (by decide) rfl (pa_cons (pv 0) (pa_cons (pe_cal k_law_rest hr (by decide) rfl (pa_cons (pv 1) (pa_cons (pv 2) pa_nil))) pa_nil))) (pa_cons (pv 3) pa_nil)))))
    (pss_cons (ps_if (PW.pt (pw_or (pt_not (pt_val (pe_callB call_isi (by rfl) T.isinstance (by decide +kernel) (pa_cons (pv 4) (pa_cons (pe_bltn (v := .ty "tuple") (u := .type "tuple") (by rfl) T.tuple (by decide +kernel) rfl) pa_nil))))) (pw_or (pt_cmpR op_ne (pe_callB call_len_seq (by rfl) T.len (by decide +kernel) (pa_cons (pv 4) pa_nil)) pe_int (by first | exact nomark _ | rfl)) (pw_or1 (pt_not (pt_val (pe_callB (cr_all rfl) (by rfl) T.all (by decide +kernel) (pa_cons (pe_lc (own := [("_law_lot_here", 7)]) rfl sc_law_corners_right.nd (pi_tup (pv 4)) (blkOk_by (N := N_law_corners_right) (sc := defScope s_law_corners_right) (by decide +kernel)) (fun _ _ _ _ _ => (pg_name (i := 7) sc_law_corners_right.nd rfl (by first | exact Or.inl rfl | exact Or.inr rfl))) (fun _ _ _ _ _ => pts_nil) (fun _ _ _ _ _ => (pe_cal k_law_lot_ok hr (by decide) rfl (pa_cons (pv 7) (pa_cons (pv 1) pa_nil))))) pa_nil)))))))) (pss_one (ps_ret pe_bl)) pss_nil)
    (pss_cons (ps_if (PW.pt (pw_or (pt_cmpR (op_neD hr.units) (pv 5) (pe_tup (pa_cons (pe_ix ix_tup (pv 4) pe_int (fun _ _ => rfl)) (pa_cons (pe_ix ix_tup (pv 4) pe_int (fun _ _ => rfl)) (pa_cons (pe_ix ix_tup (pv 4) pe_int (fun _ _ => rfl)) (pa_cons (pe_ix ix_tup (pv 4) pe_int (fun _ _ => rfl)) pa_nil))))) (by first | exact nomark _ | rfl)) (pw_or1 (pt_cmpR op_ne (pe_callB (cr_sum rfl) (by rfl) T.sum (by decide +kernel) (pa_cons (pe_lc (own := [("_law_lot_here", 7)]) rfl sc_law_corners_right.nd (pi_tup (pv 4)) (blkOk_by (N := N_law_corners_right) (sc := defScope s_law_corners_right) (by decide +kernel)) (fun _ _ _ _ _ => (pg_name (i := 7) sc_law_corners_right.nd rfl (by first | exact Or.inl rfl | exact Or.inr rfl))) (fun _ _ _ _ _ => pts_nil) (fun _ _ _ _ _ => (pe_callB call_len_seq (by rfl) T.len (by decide +kernel) (pa_cons (pv 7) pa_nil)))) pa_nil)) (pv 1) (by first | exact nomark _ | rfl))))) (pss_one (ps_ret pe_bl)) pss_nil)
    (pss_cons (ps_set (i := 6) sc_law_corners_right.nd rfl (by first | exact Or.inl rfl | exact Or.inr rfl) (pe_calX k_crosses hr (by decide) rfl (pa_cons (pv 1) (pa_cons (pv 2) (pa_cons (pv 3) pa_nil)))))
    (pss_cons (ps_if (PW.pt (pw_or (pt_not (pt_val (pe_callB call_isi (by rfl) T.isinstance (by decide +kernel) (pa_cons (pv 6) (pa_cons (pe_bltn (v := .ty "bool") (u := .type "bool") (by rfl) T.bool (by decide +kernel) rfl) pa_nil))))) (pw_or1 (pt_cmpR op_ne (pv 6) (pe_callB (cr_all rfl) (by rfl) T.all (by decide +kernel) (pa_cons (pe_lc (own := [("_law_lot_here", 7)]) rfl sc_law_corners_right.nd (pi_tup (pv 4)) (blkOk_by (N := N_law_corners_right) (sc := defScope s_law_corners_right) (by decide +kernel)) (fun _ _ _ _ _ => (pg_name (i := 7) sc_law_corners_right.nd rfl (by first | exact Or.inl rfl | exact Or.inr rfl))) (fun _ _ _ _ _ => pts_nil) (fun _ _ _ _ _ => (pe_cmpR op_gt (pe_callB call_len_seq (by rfl) T.len (by decide +kernel) (pa_cons (pv 7) pa_nil)) pe_int (by first | exact nomark _ | rfl)))) pa_nil)) (by first | exact nomark _ | rfl))))) (pss_one (ps_ret pe_bl)) pss_nil)
    (pss_one (ps_ret (pe_and (pe_cmpR op_eq (pe_calX k_crosses hr (by decide) rfl (pa_cons (pv 1) (pa_cons (pe_cal k_law_rest hr (by decide) rfl (pa_cons (pv 1) (pa_cons (pv 2) pa_nil))) (pa_cons (pv 3) pa_nil)))) (pv 6) (by first | exact nomark _ | rfl)) (pe_one (pe_cmpR op_eq (pe_calX k_crosses hr (by decide) rfl (pa_cons (pv 1) (pa_cons (pv 3) (pa_cons (pv 2) pa_nil)))) (pv 6) (by first | exact nomark _ | rfl))))))))))))
abbrev s_spared : Stmt := top 52
theorem sc_spared : FnScope N_spared ["net", "world", "one", "other"] (defScope s_spared) := ⟨rfl, rfl, rfl, by decide +kernel, rfl, by decide +kernel, by decide +kernel⟩
theorem der_spared {P : Program} {w : World} {K : PySem.W.Frag} {a : Ad} {mg : Str → Option Value} {base : Heap} {f : Addr} {cdv : Value} {A : Around} {outer : List Env} {s : Shared} {H : Hp} {E : XK} (T : Blt mg) (k_world_of : CalX P w K mg base "world_of" 4 ["net", "world"] (SpWX K 2 (W_world_of K a))) (k_good_lot : CalX P w K mg base "good_lot" 3 ["size", "lot"] (SpWX K 2 (W_good_lot K a))) (k_common : CalX P w K mg base "common" 1 ["one", "other"] (SpWX K 2 (W_common K a))) (k_both : CalX P w K mg base "both" 1 ["one", "other"] (SpWX K 2 (W_both K a))) (k_costs_less : CalX P w K mg base "costs_less" 6 ["net", "world", "plus", "less"] (SpWX K 4 (W_costs_less K a))) (hr : Room 6 (A.deeper (envOfC "spared" (defScope s_spared) s.heap.objs.size f cdv))) :
    PSs (cxOf (L2.CX P w) P w K mg base N_spared "spared" (defScope s_spared) f cdv A outer s H E) (defBody s_spared) (t_spared K a E) := by
  exact (pss_cons (ps_set (i := 4) sc_spared.nd rfl (by first | exact Or.inl rfl | exact Or.inr rfl) (pe_calE k_world_of hr (by decide) rfl (passes_call (takes_of rfl rfl rfl rfl) fun _ _ _ _ h => h) (pa_cons (pv 0) (pa_cons (pv 1) pa_nil))))
    (pss_cons (ps_set (i := 5) sc_spared.nd rfl (by first | exact Or.inl rfl | exact Or.inr rfl) (pe_calE k_good_lot hr (by decide) rfl (passes_call (takes_of rfl rfl rfl rfl) fun _ _ _ _ h => h) (pa_cons (pe_fld (pv 0) rfl) (pa_cons (pv 2) pa_nil))))
    (pss_cons (ps_set (i := 6) sc_spared.nd rfl (by first | exact Or.inl rfl | exact Or.inr rfl) (pe_calE k_good_lot hr (by decide) rfl (passes_call (takes_of rfl rfl rfl rfl) fun _ _ _ _ h => h) (pa_cons (pe_fld (pv 0) rfl) (pa_cons (pv 3) pa_nil))))
    (pss_cons (ps_set (i := 7) sc_spared.nd rfl (by first | exact Or.inl rfl | exact Or.inr rfl) (pe_tup (pa_cons (pe_calE k_common hr (by decide) rfl (passes_call (takes_of rfl rfl rfl rfl) fun _ _ _ _ h => h) (pa_cons (pv 5) (pa_cons (pv 6) pa_nil))) (pa_cons (pe_calE k_both hr (by decide) rfl (passes_call (takes_of rfl rfl rfl rfl) fun _ _ _ _ h => h) (pa_cons (pv 5) (pa_cons (pv 6) pa_nil))) pa_nil))))
    (pss_one (ps_ret (pe_calE k_costs_less hr (by decide) rfl (passes_call (takes_of rfl rfl rfl rfl) fun _ _ _ _ h => h) (pa_cons (pv 0) (pa_cons (pv 4) (pa_cons (pe_tup (pa_cons (pv 5) (pa_cons (pv 6) pa_nil))) (pa_cons (pv 7) pa_nil)))))))))))
abbrev s_spared_apart : Stmt := top 53
theorem sc_spared_apart : FnScope N_spared_apart ["net", "world", "one", "other"] (defScope s_spared_apart) := ⟨rfl, rfl, rfl, by decide +kernel, rfl, by decide +kernel, by decide +kernel⟩
theorem der_spared_apart {P : Program} {w : World} {K : PySem.W.Frag} {a : Ad} {mg : Str → Option Value} {base : Heap} {f : Addr} {cdv : Value} {A : Around} {outer : List Env} {s : Shared} {H : Hp} {E : XK} (T : Blt mg) (k_check_twoway : CalX P w K mg base "check_twoway" 3 ["net"] (SpWX K 1 (W_check_twoway K a))) (k_world_of : CalX P w K mg base "world_of" 4 ["net", "world"] (SpWX K 2 (W_world_of K a))) (k_good_lot : CalX P w K mg base "good_lot" 3 ["size", "lot"] (SpWX K 2 (W_good_lot K a))) (k_minus : CalX P w K mg base "minus" 1 ["one", "other"] (SpWX K 2 (W_minus K a))) (k_costs_less : CalX P w K mg base "costs_less" 6 ["net", "world", "plus", "less"] (SpWX K 4 (W_costs_less K a))) (hr : Room 6 (A.deeper (envOfC "spared_apart" (defScope s_spared_apart) s.heap.objs.size f cdv))) :
    PSs (cxOf (L2.CX P w) P w K mg base N_spared_apart "spared_apart" (defScope s_spared_apart) f cdv A outer s H E) (defBody s_spared_apart) (t_spared_apart K a E) := by
  exact (pss_cons (ps_expr (pe_calE k_check_twoway hr (by decide) rfl (passes_call (takes_of rfl rfl rfl rfl) fun _ _ _ _ h => h) (pa_cons (pv 0) pa_nil)))
    (pss_cons (ps_set (i := 4) sc_spared_apart.nd rfl (by first | exact Or.inl rfl | exact Or.inr rfl) (pe_calE k_world_of hr (by decide) rfl (passes_call (takes_of rfl rfl rfl rfl) fun _ _ _ _ h => h) (pa_cons (pv 0) (pa_cons (pv 1) pa_nil))))
    (pss_cons (ps_set (i := 5) sc_spared_apart.nd rfl (by first | exact Or.inl rfl | exact Or.inr rfl) (pe_calE k_good_lot hr (by decide) rfl (passes_call (takes_of rfl rfl rfl rfl) fun _ _ _ _ h => h) (pa_cons (pe_fld (pv 0) rfl) (pa_cons (pv 2) pa_nil))))
    (pss_cons (ps_set (i := 6) sc_spared_apart.nd rfl (by first | exact Or.inl rfl | exact Or.inr rfl) (pe_calE k_good_lot hr (by decide) rfl (passes_call (takes_of rfl rfl rfl rfl) fun _ _ _ _ h => h) (pa_cons (pe_fld (pv 0) rfl) (pa_cons (pv 3) pa_nil))))
    (pss_cons (ps_set (i := 7) sc_spared_apart.nd rfl (by first | exact Or.inl rfl | exact Or.inr rfl) (pe_tup (pa_cons (pe_calE k_minus hr (by decide) rfl (passes_call (takes_of rfl rfl rfl rfl) fun _ _ _ _ h => h) (pa_cons (pv 5) (pa_cons (pv 6) pa_nil))) (pa_cons (pe_calE k_minus hr (by decide) rfl (passes_call (takes_of rfl rfl rfl rfl) fun _ _ _ _ h => h) (pa_cons (pv 6) (pa_cons (pv 5) pa_nil))) pa_nil))))
    (pss_one (ps_ret (pe_calE k_costs_less hr (by decide) rfl (passes_call (takes_of rfl rfl rfl rfl) fun _ _ _ _ h => h) (pa_cons (pv 0) (pa_cons (pv 4) (pa_cons (pe_tup (pa_cons (pv 5) (pa_cons (pv 6) pa_nil))) (pa_cons (pv 7) pa_nil))))))))))))
abbrev s_law_built : Stmt := top 64
theorem sc_law_built : FnScope N_law_built ["_law_kind_here", "_law_size", "_law_ties"] (defScope s_law_built) := ⟨rfl, rfl, rfl, by decide +kernel, rfl, by decide +kernel, by decide +kernel⟩
theorem der_law_built {P : Program} {w : World} {K : PySem.W.Frag} {a : Ad} {mg : Str → Option Value} {base : Heap} {f : Addr} {cdv : Value} {A : Around} {outer : List Env} {s : Shared} {H : Hp} {E : XK} (T : Blt mg) (k_Oneway_init : CalIX P w K mg base a.Oneway 5 ["self", "size", "ties"] (spInit K a.Oneway)) (k_Twoway_init : CalIX P w K mg base a.Twoway 5 ["self", "size", "ties"] (spInit K a.Twoway)) (c_Oneway : mg "Oneway" = some (.ref a.Oneway)) (c_Twoway : mg "Twoway" = some (.ref a.Twoway)) (hr : Room 6 (A.deeper (envOfC "_law_built" (defScope s_law_built) s.heap.objs.size f cdv))) :
    PSs (cxOf CX0 P w K mg base N_law_built "_law_built" (defScope s_law_built) f cdv A outer s H E).nox (defBody s_law_built) (t_law_built K a) := by
  obtain ⟨f_Oneway_init, fd_Oneway_init, mk_Oneway_init, bi_Oneway_init, ok_Oneway_init⟩ := k_Oneway_init
  obtain ⟨f_Twoway_init, fd_Twoway_init, mk_Twoway_init, bi_Twoway_init, ok_Twoway_init⟩ := k_Twoway_init
  exact (pss_cons (ps_if (pt_cmpR op_eq (pv 0) pe_str (by first | exact nomark _ | rfl)) (pss_one (ps_ret (pe_make mk_Oneway_init ok_Oneway_init (hr.mono (by decide)) rfl c_Oneway bi_Oneway_init .nil passL (pa_cons (pv 1) (pa_cons (pv 2) pa_nil))))) pss_nil)
    (pss_one (ps_ret (pe_make mk_Twoway_init ok_Twoway_init (hr.mono (by decide)) rfl c_Twoway bi_Twoway_init .nil passL (pa_cons (pv 1) (pa_cons (pv 2) pa_nil))))))
abbrev s_law_lot_door : Stmt := top 72
theorem sc_law_lot_door : FnScope N_law_lot_door ["_law_word", "_law_net_here", "_law_world_here", "_law_lot_here"] (defScope s_law_lot_door) := ⟨rfl, rfl, rfl, by decide +kernel, rfl, by decide +kernel, by decide +kernel⟩
theorem der_law_lot_door {P : Program} {w : World} {K : PySem.W.Frag} {a : Ad} {mg : Str → Option Value} {base : Heap} {f : Addr} {cdv : Value} {A : Around} {outer : List Env} {s : Shared} {H : Hp} {E : XK} (T : Blt mg) (k_lot_of : CalX P w K mg base "lot_of" 4 ["size", "places"] (SpWX K 2 (W_lot_of K a))) (k_cost : CalX P w K mg base "cost" 5 ["net", "world", "lot"] (SpWX K 3 (W_cost K a))) (k_corners : CalX P w K mg base "corners" 4 ["size", "one", "other"] (SpWX K 3 (W_corners K a))) (k_crosses : CalX P w K mg base "crosses" 5 ["size", "one", "other"] (SpWX K 3 (W_crosses K a))) (k_spared : CalX P w K mg base "spared" 7 ["net", "world", "one", "other"] (SpWX K 4 (W_spared K a))) (r_gates : ∀ C sp, R_gates K a C sp → CalMX P w K mg base C "gates" 4 ["self", "lot"] sp) (r_inner : ∀ C sp, R_inner K a C sp → CalMX P w K mg base C "inner" 4 ["self", "lot"] sp) (r_between : ∀ C sp, R_between K a C sp → CalMX P w K mg base C "between" 4 ["self", "one", "other"] sp) (x_BadLot : XfOk K (a.ec "BadLot") "at") (c_BadLot : mg "BadLot" = some (.ref (a.ec "BadLot"))) (c_BadNet : mg "BadNet" = some (.ref (a.ec "BadNet"))) (c_BadNumber : mg "BadNumber" = some (.ref (a.ec "BadNumber"))) (c_BadPlace : mg "BadPlace" = some (.ref (a.ec "BadPlace"))) (c_BadTie : mg "BadTie" = some (.ref (a.ec "BadTie"))) (c_GatesError : mg "GatesError" = some (.ref (a.ec "GatesError"))) (hr : Room 7 (A.deeper (envOfC "_law_lot_door" (defScope s_law_lot_door) s.heap.objs.size f cdv))) :
    PSs (cxOf CX0 P w K mg base N_law_lot_door "_law_lot_door" (defScope s_law_lot_door) f cdv A outer s H E).nox (defBody s_law_lot_door) (t_law_lot_door K a) := by
  exact (pss_cons (ps_set (i := 4) sc_law_lot_door.nd rfl (by first | exact Or.inl rfl | exact Or.inr rfl) pe_non)
    (pss_cons (ps_try_nm (tb := fun W => (tIfS (tTest (tOp rEq (tVar 0) (tC (.int 0)))) (tDrop (tCallS (SpWX K 2 (W_lot_of K a)) (WE W) (tCons (tFld K (tVar 1) "size") (tCons (tVar 3) tNil)))) (tIfS (tTest (tOp rEq (tVar 0) (tC (.int 1)))) (tDrop (tMethUXS (R_gates K a) "gates" (WE W) (tVar 1) (tCons (tVar 3) tNil))) (tIfS (tTest (tOp rEq (tVar 0) (tC (.int 2)))) (tDrop (tMethUXS (R_inner K a) "inner" (WE W) (tVar 1) (tCons (tVar 3) tNil))) (tIfS (tTest (tOp rEq (tVar 0) (tC (.int 3)))) (tDrop (tMethUXS (R_between K a) "between" (WE W) (tVar 1) (tCons (tVar 3) (tCons (tLst (tCons (tC (.int 0)) (tCons (tC (.int 0)) tNil))) tNil)))) (tIfS (tTest (tOp rEq (tVar 0) (tC (.int 4)))) (tDrop (tMethUXS (R_between K a) "between" (WE W) (tVar 1) (tCons (tLst tNil) (tCons (tVar 3) tNil)))) (tIfS (tTest (tOp rEq (tVar 0) (tC (.int 5)))) (tDrop (tCallS (SpWX K 3 (W_cost K a)) (WE W) (tCons (tVar 1) (tCons (tVar 2) (tCons (tVar 3) tNil))))) (tIfS (tTest (tOp rEq (tVar 0) (tC (.int 6)))) (tDrop (tCallS (SpWX K 3 (W_corners K a)) (WE W) (tCons (tFld K (tVar 1) "size") (tCons (tVar 3) (tCons (tLst (tCons (tC (.int 0)) (tCons (tC (.int 0)) tNil))) tNil))))) (tIfS (tTest (tOp rEq (tVar 0) (tC (.int 7)))) (tDrop (tCallS (SpWX K 3 (W_crosses K a)) (WE W) (tCons (tFld K (tVar 1) "size") (tCons (tLst (tCons (tC (.int 0)) tNil)) (tCons (tVar 3) tNil))))) (tIfS (tTest (tOp rEq (tVar 0) (tC (.int 8)))) (tDrop (tCallS (SpWX K 4 (W_spared K a)) (WE W) (tCons (tVar 1) (tCons (tVar 2) (tCons (tVar 3) (tCons (tLst (tCons (tC (.int 0)) (tCons (tC (.int 0)) tNil))) tNil)))))) (tDrop (tCallS (SpWX K 4 (W_spared K a)) (WE W) (tCons (tVar 1) (tCons (tVar 2) (tCons (tLst (tCons (tC (.int 0)) tNil)) (tCons (tVar 3) tNil)))))))))))))))) (ks := [⟨.ref (a.ec "BadLot"), 5, fun ea cls d => (tAsg (tLst (tCons (tXf ea cls d (a.ec "BadLot") "at" (tVar 5)) (tCons (tCB (rIsEx K ea cls d) (tCons (tVar 5) (tCons (tC (.ref (a.ec "GatesError"))) tNil))) (tCons (tCB (rIsEdT K ea cls d) (tCons (tVar 5) (tCons (tTup (tCons (tC (.ref (a.ec "BadNet"))) (tCons (tC (.ref (a.ec "BadNumber"))) (tCons (tC (.ref (a.ec "BadPlace"))) (tCons (tC (.ref (a.ec "BadTie"))) tNil))))) tNil))) tNil)))) (gName 4))⟩]) (Wo := fun _ _ _ _ => False) rfl rfl sc_law_lot_door.nd takes0 (fun W pn xe tk _ => (pss_one (ps_if (pt_cmpR op_eq (pv 0) pe_int (by first | exact nomark _ | rfl)) (pss_one (ps_expr (pe_calS k_lot_of hr (by decide) rfl tk (pa_cons (pe_fld (pv 1) rfl) (pa_cons (pv 3) pa_nil))))) (pss_one (ps_if (pt_cmpR op_eq (pv 0) pe_int (by first | exact nomark _ | rfl)) (pss_one (ps_expr (pe_methUXS r_gates (pv 1) hr (by decide) tk (pa_cons (pv 3) pa_nil)))) (pss_one (ps_if (pt_cmpR op_eq (pv 0) pe_int (by first | exact nomark _ | rfl)) (pss_one (ps_expr (pe_methUXS r_inner (pv 1) hr (by decide) tk (pa_cons (pv 3) pa_nil)))) (pss_one (ps_if (pt_cmpR op_eq (pv 0) pe_int (by first | exact nomark _ | rfl)) (pss_one (ps_expr (pe_methUXS r_between (pv 1) hr (by decide) tk (pa_cons (pv 3) (pa_cons (pe_lst (pa_cons pe_int (pa_cons pe_int pa_nil))) pa_nil))))) (pss_one (ps_if (pt_cmpR op_eq (pv 0) pe_int (by first | exact nomark _ | rfl)) (pss_one (ps_expr (pe_methUXS r_between (pv 1) hr (by decide) tk (pa_cons (pe_lst pa_nil) (pa_cons (pv 3) pa_nil))))) (pss_one (ps_if (pt_cmpR op_eq (pv 0) pe_int (by first | exact nomark _ | rfl)) (pss_one (ps_expr (pe_calS k_cost hr (by decide) rfl tk (pa_cons (pv 1) (pa_cons (pv 2) (pa_cons (pv 3) pa_nil)))))) (pss_one (ps_if (pt_cmpR op_eq (pv 0) pe_int (by first | exact nomark _ | rfl)) (pss_one (ps_expr (pe_calS k_corners hr (by decide) rfl tk (pa_cons (pe_fld (pv 1) rfl) (pa_cons (pv 3) (pa_cons (pe_lst (pa_cons pe_int (pa_cons pe_int pa_nil))) pa_nil)))))) (pss_one (ps_if (pt_cmpR op_eq (pv 0) pe_int (by first | exact nomark _ | rfl)) (pss_one (ps_expr (pe_calS k_crosses hr (by decide) rfl tk (pa_cons (pe_fld (pv 1) rfl) (pa_cons (pe_lst (pa_cons pe_int pa_nil)) (pa_cons (pv 3) pa_nil)))))) (pss_one (ps_if (pt_cmpR op_eq (pv 0) pe_int (by first | exact nomark _ | rfl)) (pss_one (ps_expr (pe_calS k_spared hr (by decide) rfl tk (pa_cons (pv 1) (pa_cons (pv 2) (pa_cons (pv 3) (pa_cons (pe_lst (pa_cons pe_int (pa_cons pe_int pa_nil))) pa_nil))))))) (pss_one (ps_expr (pe_calS k_spared hr (by decide) rfl tk (pa_cons (pv 1) (pa_cons (pv 2) (pa_cons (pe_lst (pa_cons pe_int pa_nil)) (pa_cons (pv 3) pa_nil)))))))))))))))))))))))))) (.cons (k := ⟨.ref (a.ec "BadLot"), 5, fun ea cls d => (tAsg (tLst (tCons (tXf ea cls d (a.ec "BadLot") "at" (tVar 5)) (tCons (tCB (rIsEx K ea cls d) (tCons (tVar 5) (tCons (tC (.ref (a.ec "GatesError"))) tNil))) (tCons (tCB (rIsEdT K ea cls d) (tCons (tVar 5) (tCons (tTup (tCons (tC (.ref (a.ec "BadNet"))) (tCons (tC (.ref (a.ec "BadNumber"))) (tCons (tC (.ref (a.ec "BadPlace"))) (tCons (tC (.ref (a.ec "BadTie"))) tNil))))) tNil))) tNil)))) (gName 4))⟩) ⟨rfl, by decide, Or.inl c_BadLot⟩ rfl rfl (fun ea oe cls d pn hz hf => (pss_one (ps_set (i := 4) sc_law_lot_door.nd rfl (by first | exact Or.inl rfl | exact Or.inr rfl) (pe_lst (pa_cons (pe_xf x_BadLot.1 x_BadLot.2 hz hf (pv 5)) (pa_cons (pe_callB (call_isEx hz hf) (by rfl) T.isinstance (by decide +kernel) (pa_cons (pv 5) (pa_cons (pe_glob (by rfl) c_GatesError (by rfl)) pa_nil))) (pa_cons (pe_callB (call_isEdT hz hf) (by rfl) T.isinstance (by decide +kernel) (pa_cons (pv 5) (pa_cons (pe_tup (pa_cons (pe_glob (by rfl) c_BadNet (by rfl)) (pa_cons (pe_glob (by rfl) c_BadNumber (by rfl)) (pa_cons (pe_glob (by rfl) c_BadPlace (by rfl)) (pa_cons (pe_glob (by rfl) c_BadTie (by rfl)) pa_nil))))) pa_nil))) pa_nil))))))) .nil))
    (pss_one (ps_ret (pv 4)))))
abbrev s_law_world_told : Stmt := top 73
theorem sc_law_world_told : FnScope N_law_world_told ["_law_word", "_law_net_here", "_law_world_here", "_law_lot_here"] (defScope s_law_world_told) := ⟨rfl, rfl, rfl, by decide +kernel, rfl, by decide +kernel, by decide +kernel⟩
theorem der_law_world_told {P : Program} {w : World} {K : PySem.W.Frag} {a : Ad} {mg : Str → Option Value} {base : Heap} {f : Addr} {cdv : Value} {A : Around} {outer : List Env} {s : Shared} {H : Hp} {E : XK} (T : Blt mg) (k_spared : CalX P w K mg base "spared" 7 ["net", "world", "one", "other"] (SpWX K 4 (W_spared K a))) (k_cost : CalX P w K mg base "cost" 5 ["net", "world", "lot"] (SpWX K 3 (W_cost K a))) (k_world_of : CalX P w K mg base "world_of" 4 ["net", "world"] (SpWX K 2 (W_world_of K a))) (x_BadWorld : XfOk K (a.ec "BadWorld") "at") (c_BadLot : mg "BadLot" = some (.ref (a.ec "BadLot"))) (c_BadNet : mg "BadNet" = some (.ref (a.ec "BadNet"))) (c_BadWorld : mg "BadWorld" = some (.ref (a.ec "BadWorld"))) (hr : Room 7 (A.deeper (envOfC "_law_world_told" (defScope s_law_world_told) s.heap.objs.size f cdv))) :
    PSs (cxOf CX0 P w K mg base N_law_world_told "_law_world_told" (defScope s_law_world_told) f cdv A outer s H E).nox (defBody s_law_world_told) (t_law_world_told K a) := by
  exact (pss_cons (ps_set (i := 4) sc_law_world_told.nd rfl (by first | exact Or.inl rfl | exact Or.inr rfl) pe_non)
    (pss_cons (ps_try_nm (tb := fun W => (tIfS (tTest (tOp rEq (tVar 0) (tC (.int 0)))) (tDrop (tCallS (SpWX K 4 (W_spared K a)) (WE W) (tCons (tVar 1) (tCons (tVar 2) (tCons (tVar 3) (tCons (tVar 3) tNil)))))) (tIfS (tTest (tOp rEq (tVar 0) (tC (.int 1)))) (tDrop (tCallS (SpWX K 3 (W_cost K a)) (WE W) (tCons (tVar 1) (tCons (tVar 2) (tCons (tVar 3) tNil))))) (tDrop (tCallS (SpWX K 2 (W_world_of K a)) (WE W) (tCons (tVar 1) (tCons (tVar 2) tNil))))))) (ks := [⟨.ref (a.ec "BadWorld"), 5, fun ea cls d => (tAsg (tLst (tCons (tXf ea cls d (a.ec "BadWorld") "at" (tVar 5)) (tCons (tCB (rIsEx K ea cls d) (tCons (tVar 5) (tCons (tC (.ty "ValueError")) tNil))) (tCons (tCB (rIsEdT K ea cls d) (tCons (tVar 5) (tCons (tTup (tCons (tC (.ref (a.ec "BadLot"))) (tCons (tC (.ref (a.ec "BadNet"))) tNil))) tNil))) tNil)))) (gName 4))⟩]) (Wo := fun _ _ _ _ => False) rfl rfl sc_law_world_told.nd takes0 (fun W pn xe tk _ => (pss_one (ps_if (pt_cmpR op_eq (pv 0) pe_int (by first | exact nomark _ | rfl)) (pss_one (ps_expr (pe_calS k_spared hr (by decide) rfl tk (pa_cons (pv 1) (pa_cons (pv 2) (pa_cons (pv 3) (pa_cons (pv 3) pa_nil))))))) (pss_one (ps_if (pt_cmpR op_eq (pv 0) pe_int (by first | exact nomark _ | rfl)) (pss_one (ps_expr (pe_calS k_cost hr (by decide) rfl tk (pa_cons (pv 1) (pa_cons (pv 2) (pa_cons (pv 3) pa_nil)))))) (pss_one (ps_expr (pe_calS k_world_of hr (by decide) rfl tk (pa_cons (pv 1) (pa_cons (pv 2) pa_nil)))))))))) (.cons (k := ⟨.ref (a.ec "BadWorld"), 5, fun ea cls d => (tAsg (tLst (tCons (tXf ea cls d (a.ec "BadWorld") "at" (tVar 5)) (tCons (tCB (rIsEx K ea cls d) (tCons (tVar 5) (tCons (tC (.ty "ValueError")) tNil))) (tCons (tCB (rIsEdT K ea cls d) (tCons (tVar 5) (tCons (tTup (tCons (tC (.ref (a.ec "BadLot"))) (tCons (tC (.ref (a.ec "BadNet"))) tNil))) tNil))) tNil)))) (gName 4))⟩) ⟨rfl, by decide, Or.inl c_BadWorld⟩ rfl rfl (fun ea oe cls d pn hz hf => (pss_one (ps_set (i := 4) sc_law_world_told.nd rfl (by first | exact Or.inl rfl | exact Or.inr rfl) (pe_lst (pa_cons (pe_xf x_BadWorld.1 x_BadWorld.2 hz hf (pv 5)) (pa_cons (pe_callB (call_isEx hz hf) (by rfl) T.isinstance (by decide +kernel) (pa_cons (pv 5) (pa_cons (pe_bltn (v := .ty "ValueError") (u := .type "ValueError") (by rfl) T.ValueError (by decide +kernel) rfl) pa_nil))) (pa_cons (pe_callB (call_isEdT hz hf) (by rfl) T.isinstance (by decide +kernel) (pa_cons (pv 5) (pa_cons (pe_tup (pa_cons (pe_glob (by rfl) c_BadLot (by rfl)) (pa_cons (pe_glob (by rfl) c_BadNet (by rfl)) pa_nil))) pa_nil))) pa_nil))))))) .nil))
    (pss_one (ps_ret (pv 4)))))
abbrev s_law_apart_told : Stmt := top 74
theorem sc_law_apart_told : FnScope N_law_apart_told ["_law_net_here", "_law_world_here", "_law_one", "_law_other"] (defScope s_law_apart_told) := ⟨rfl, rfl, rfl, by decide +kernel, rfl, by decide +kernel, by decide +kernel⟩
theorem der_law_apart_told {P : Program} {w : World} {K : PySem.W.Frag} {a : Ad} {mg : Str → Option Value} {base : Heap} {f : Addr} {cdv : Value} {A : Around} {outer : List Env} {s : Shared} {H : Hp} {E : XK} (T : Blt mg) (k_spared_apart : CalX P w K mg base "spared_apart" 7 ["net", "world", "one", "other"] (SpWX K 4 (W_spared_apart K a))) (x_BadLot : XfOk K (a.ec "BadLot") "at") (x_BadWorld : XfOk K (a.ec "BadWorld") "at") (c_BadLot : mg "BadLot" = some (.ref (a.ec "BadLot"))) (c_BadWorld : mg "BadWorld" = some (.ref (a.ec "BadWorld"))) (c_GatesError : mg "GatesError" = some (.ref (a.ec "GatesError"))) (c_NotTwoway : mg "NotTwoway" = some (.ref (a.ec "NotTwoway"))) (c_OtherKind : mg "OtherKind" = some (.ref (a.ec "OtherKind"))) (hr : Room 7 (A.deeper (envOfC "_law_apart_told" (defScope s_law_apart_told) s.heap.objs.size f cdv))) :
    PSs (cxOf CX0 P w K mg base N_law_apart_told "_law_apart_told" (defScope s_law_apart_told) f cdv A outer s H E).nox (defBody s_law_apart_told) (t_law_apart_told K a) := by
  exact (pss_cons (ps_set (i := 4) sc_law_apart_told.nd rfl (by first | exact Or.inl rfl | exact Or.inr rfl) pe_non)
    (pss_cons (ps_try_nm (tb := fun W => (tDrop (tCallS (SpWX K 4 (W_spared_apart K a)) (WE W) (tCons (tVar 0) (tCons (tVar 1) (tCons (tVar 2) (tCons (tVar 3) tNil))))))) (ks := [⟨.ref (a.ec "NotTwoway"), 5, fun ea cls d => (tAsg (tLst (tCons (tCB (rIsEx K ea cls d) (tCons (tVar 5) (tCons (tC (.ref (a.ec "GatesError"))) tNil))) (tCons (tCB (rIsEx K ea cls d) (tCons (tVar 5) (tCons (tC (.ref (a.ec "OtherKind"))) tNil))) tNil))) (gName 4))⟩, ⟨.ref (a.ec "BadLot"), 6, fun ea cls d => (tAsg (tXf ea cls d (a.ec "BadLot") "at" (tVar 6)) (gName 4))⟩, ⟨.ref (a.ec "BadWorld"), 7, fun ea cls d => (tAsg (tTup (tCons (tC (.str "world")) (tCons (tXf ea cls d (a.ec "BadWorld") "at" (tVar 7)) tNil))) (gName 4))⟩]) (Wo := fun _ _ _ _ => False) rfl rfl sc_law_apart_told.nd takes0 (fun W pn xe tk _ => (pss_one (ps_expr (pe_calS k_spared_apart hr (by decide) rfl tk (pa_cons (pv 0) (pa_cons (pv 1) (pa_cons (pv 2) (pa_cons (pv 3) pa_nil)))))))) (.cons (k := ⟨.ref (a.ec "NotTwoway"), 5, fun ea cls d => (tAsg (tLst (tCons (tCB (rIsEx K ea cls d) (tCons (tVar 5) (tCons (tC (.ref (a.ec "GatesError"))) tNil))) (tCons (tCB (rIsEx K ea cls d) (tCons (tVar 5) (tCons (tC (.ref (a.ec "OtherKind"))) tNil))) tNil))) (gName 4))⟩) ⟨rfl, by decide, Or.inl c_NotTwoway⟩ rfl rfl (fun ea oe cls d pn hz hf => (pss_one (ps_set (i := 4) sc_law_apart_told.nd rfl (by first | exact Or.inl rfl | exact Or.inr rfl) (pe_lst (pa_cons (pe_callB (call_isEx hz hf) (by rfl) T.isinstance (by decide +kernel) (pa_cons (pv 5) (pa_cons (pe_glob (by rfl) c_GatesError (by rfl)) pa_nil))) (pa_cons (pe_callB (call_isEx hz hf) (by rfl) T.isinstance (by decide +kernel) (pa_cons (pv 5) (pa_cons (pe_glob (by rfl) c_OtherKind (by rfl)) pa_nil))) pa_nil)))))) (.cons (k := ⟨.ref (a.ec "BadLot"), 6, fun ea cls d => (tAsg (tXf ea cls d (a.ec "BadLot") "at" (tVar 6)) (gName 4))⟩) ⟨rfl, by decide, Or.inl c_BadLot⟩ rfl rfl (fun ea oe cls d pn hz hf => (pss_one (ps_set (i := 4) sc_law_apart_told.nd rfl (by first | exact Or.inl rfl | exact Or.inr rfl) (pe_xf x_BadLot.1 x_BadLot.2 hz hf (pv 6))))) (.cons (k := ⟨.ref (a.ec "BadWorld"), 7, fun ea cls d => (tAsg (tTup (tCons (tC (.str "world")) (tCons (tXf ea cls d (a.ec "BadWorld") "at" (tVar 7)) tNil))) (gName 4))⟩) ⟨rfl, by decide, Or.inl c_BadWorld⟩ rfl rfl (fun ea oe cls d pn hz hf => (pss_one (ps_set (i := 4) sc_law_apart_told.nd rfl (by first | exact Or.inl rfl | exact Or.inr rfl) (pe_tup (pa_cons pe_str (pa_cons (pe_xf x_BadWorld.1 x_BadWorld.2 hz hf (pv 7)) pa_nil)))))) .nil))))
    (pss_one (ps_ret (pv 4)))))
abbrev s_law_listed_told : Stmt := top 75
theorem sc_law_listed_told : FnScope N_law_listed_told ["_law_inner", "_law_outer"] (defScope s_law_listed_told) := ⟨rfl, rfl, rfl, by decide +kernel, rfl, by decide +kernel, by decide +kernel⟩
theorem der_law_listed_told {P : Program} {w : World} {K : PySem.W.Frag} {a : Ad} {mg : Str → Option Value} {base : Heap} {f : Addr} {cdv : Value} {A : Around} {outer : List Env} {s : Shared} {H : Hp} {E : XK} (T : Blt mg) (k_lots_between : CalGe P w K mg base "lots_between" 4 ["inner", "outer"] (SpGL K 2 (W_lots_between K a))) (x_BadLot : XfOk K (a.ec "BadLot") "at") (x_NotInside : XfOk K (a.ec "NotInside") "place") (x_TooMany : XfOk K (a.ec "TooMany") "size") (c_BadLot : mg "BadLot" = some (.ref (a.ec "BadLot"))) (c_NotInside : mg "NotInside" = some (.ref (a.ec "NotInside"))) (c_TooMany : mg "TooMany" = some (.ref (a.ec "TooMany"))) (hr : Room 7 (A.deeper (envOfC "_law_listed_told" (defScope s_law_listed_told) s.heap.objs.size f cdv))) :
    PSs (cxOf CX0 P w K mg base N_law_listed_told "_law_listed_told" (defScope s_law_listed_told) f cdv A outer s H E).nox (defBody s_law_listed_told) (t_law_listed_told K a) := by
  exact (pss_cons (ps_set (i := 2) sc_law_listed_told.nd rfl (by first | exact Or.inl rfl | exact Or.inr rfl) pe_non)
    (pss_cons (ps_try_nm (tb := fun W => (tDrop (tLG K (SpGL K 2 (W_lots_between K a)) W (tCons (tVar 0) (tCons (tVar 1) tNil))))) (ks := [⟨.ref (a.ec "BadLot"), 3, fun ea cls d => (tAsg (tXf ea cls d (a.ec "BadLot") "at" (tVar 3)) (gName 2))⟩, ⟨.ref (a.ec "NotInside"), 4, fun ea cls d => (tAsg (tLst (tCons (tC (.str "inside")) (tCons (tXf ea cls d (a.ec "NotInside") "place" (tVar 4)) tNil))) (gName 2))⟩, ⟨.ref (a.ec "TooMany"), 5, fun ea cls d => (tAsg (tLst (tCons (tC (.str "many")) (tCons (tXf ea cls d (a.ec "TooMany") "size" (tVar 5)) tNil))) (gName 2))⟩]) (Wo := fun _ _ _ _ => False) rfl rfl sc_law_listed_told.nd takes0 (fun W pn xe tk _ => (pss_one (ps_expr (pe_listGS k_lots_between hr (by decide) (by rfl) T.list rfl tk (pa_cons (pv 0) (pa_cons (pv 1) pa_nil)))))) (.cons (k := ⟨.ref (a.ec "BadLot"), 3, fun ea cls d => (tAsg (tXf ea cls d (a.ec "BadLot") "at" (tVar 3)) (gName 2))⟩) ⟨rfl, by decide, Or.inl c_BadLot⟩ rfl rfl (fun ea oe cls d pn hz hf => (pss_one (ps_set (i := 2) sc_law_listed_told.nd rfl (by first | exact Or.inl rfl | exact Or.inr rfl) (pe_xf x_BadLot.1 x_BadLot.2 hz hf (pv 3))))) (.cons (k := ⟨.ref (a.ec "NotInside"), 4, fun ea cls d => (tAsg (tLst (tCons (tC (.str "inside")) (tCons (tXf ea cls d (a.ec "NotInside") "place" (tVar 4)) tNil))) (gName 2))⟩) ⟨rfl, by decide, Or.inl c_NotInside⟩ rfl rfl (fun ea oe cls d pn hz hf => (pss_one (ps_set (i := 2) sc_law_listed_told.nd rfl (by first | exact Or.inl rfl | exact Or.inr rfl) (pe_lst (pa_cons pe_str (pa_cons (pe_xf x_NotInside.1 x_NotInside.2 hz hf (pv 4)) pa_nil)))))) (.cons (k := ⟨.ref (a.ec "TooMany"), 5, fun ea cls d => (tAsg (tLst (tCons (tC (.str "many")) (tCons (tXf ea cls d (a.ec "TooMany") "size" (tVar 5)) tNil))) (gName 2))⟩) ⟨rfl, by decide, Or.inl c_TooMany⟩ rfl rfl (fun ea oe cls d pn hz hf => (pss_one (ps_set (i := 2) sc_law_listed_told.nd rfl (by first | exact Or.inl rfl | exact Or.inr rfl) (pe_lst (pa_cons pe_str (pa_cons (pe_xf x_TooMany.1 x_TooMany.2 hz hf (pv 5)) pa_nil)))))) .nil))))
    (pss_one (ps_ret (pv 2)))))
abbrev s_law_listed_right : Stmt := top 76
theorem sc_law_listed_right : FnScope N_law_listed_right ["_law_size"] (defScope s_law_listed_right) := ⟨rfl, rfl, rfl, by decide +kernel, rfl, by decide +kernel, by decide +kernel⟩
theorem der_law_listed_right {P : Program} {w : World} {K : PySem.W.Frag} {a : Ad} {mg : Str → Option Value} {base : Heap} {f : Addr} {cdv : Value} {A : Around} {outer : List Env} {s : Shared} {H : Hp} {E : XK} (T : Blt mg) (k_law_listed_told : Cal P w K mg base "_law_listed_told" 8 ["_law_inner", "_law_outer"] (SpW K 2 (W_law_listed_told K a))) (k_lots_between : CalGe P w K mg base "lots_between" 4 ["inner", "outer"] (SpGL K 2 (W_lots_between K a))) (hr : Room 8 (A.deeper (envOfC "_law_listed_right" (defScope s_law_listed_right) s.heap.objs.size f cdv))) :
    PSs (cxOf CX0 P w K mg base N_law_listed_right "_law_listed_right" (defScope s_law_listed_right) f cdv A outer s H E).nox (defBody s_law_listed_right) (t_law_listed_right K a) := by
  exact (pss_cons (ps_if (PW.pt (pw_or (pt_cmpR (op_neD hr.units) (pe_cal k_law_listed_told hr (by decide) rfl (pa_cons (pe_lst (pa_cons pe_int (pa_cons pe_int pa_nil))) (pa_cons pe_non pa_nil))) pe_int (by first | exact nomark _ | rfl)) (pw_or (pt_cmpR (op_neD hr.units) (pe_cal k_law_listed_told hr (by decide) rfl (pa_cons (pe_tup pa_nil) (pa_cons (pe_lst (pa_cons pe_int (pa_cons (pe_op op_sub pe_int pe_int) pa_nil))) pa_nil))) pe_int (by first | exact nomark _ | rfl)) (pw_or1 (pt_cmpR (op_neD hr.units) (pe_cal k_law_listed_told hr (by decide) rfl (pa_cons (pe_tup pa_nil) (pa_cons pe_non pa_nil))) (pe_op op_sub pe_int pe_int) (by first | exact nomark _ | rfl)))))) (pss_one (ps_ret pe_bl)) pss_nil)
    (pss_cons (ps_if (PW.pt (pw_or (pt_cmpR (op_neD hr.units) (pe_cal k_law_listed_told hr (by decide) rfl (pa_cons (pe_lst pa_nil) (pa_cons (pe_lst (pa_cons pe_bl pa_nil)) pa_nil))) pe_int (by first | exact nomark _ | rfl)) (pw_or1 (pt_cmpR (op_neD hr.units) (pe_cal k_law_listed_told hr (by decide) rfl (pa_cons (pe_tup (pa_cons (pv 0) (pa_cons pe_str pa_nil))) (pa_cons (pe_lst (pa_cons pe_int pa_nil)) pa_nil))) pe_int (by first | exact nomark _ | rfl))))) (pss_one (ps_ret pe_bl)) pss_nil)
    (pss_cons (ps_if (PW.pt (pw_or (pt_cmpR (op_neD hr.units) (pe_cal k_law_listed_told hr (by decide) rfl (pa_cons (pe_lst (pa_cons pe_int pa_nil)) (pa_cons (pe_listRg rfl rfl T.list (prg_1 rfl T.range pe_int)) pa_nil))) (pe_lst (pa_cons pe_str (pa_cons pe_int pa_nil))) (by first | exact nomark _ | rfl)) (pw_or1 (pt_cmpR (op_neD hr.units) (pe_cal k_law_listed_told hr (by decide) rfl (pa_cons (pe_tup pa_nil) (pa_cons (pe_listRg rfl rfl T.list (prg_1 rfl T.range pe_int)) pa_nil))) (pe_lst (pa_cons pe_str (pa_cons pe_int pa_nil))) (by first | exact nomark _ | rfl))))) (pss_one (ps_ret pe_bl)) pss_nil)
    (pss_cons (ps_set (i := 1) sc_law_listed_right.nd rfl (by first | exact Or.inl rfl | exact Or.inr rfl) (pe_lst (pa_cons (pe_tup (pa_cons pe_int pa_nil)) (pa_cons (pe_tup (pa_cons pe_int (pa_cons pe_int pa_nil))) (pa_cons (pe_tup (pa_cons pe_int (pa_cons pe_int pa_nil))) (pa_cons (pe_tup (pa_cons pe_int (pa_cons pe_int (pa_cons pe_int pa_nil)))) pa_nil))))))
    (pss_one (ps_ret (pe_cmpR (op_eqD hr.units) (pe_lsG k_lots_between hr (by decide) (by rfl) T.list rfl (pa_cons (pe_tup (pa_cons pe_int pa_nil)) (pa_cons (pe_lst (pa_cons pe_int (pa_cons pe_int (pa_cons pe_int pa_nil)))) pa_nil))) (pv 1) (by first | exact nomark _ | rfl))))))))
abbrev s_law_apart_right : Stmt := top 80
theorem sc_law_apart_right : FnScope N_law_apart_right ["_law_draws_here", "_law_net_here", "_law_kind_here", "_law_ties", "_law_world_here", "_law_one", "_law_other"] (defScope s_law_apart_right) := ⟨rfl, rfl, rfl, by decide +kernel, rfl, by decide +kernel, by decide +kernel⟩
theorem der_law_apart_right {P : Program} {w : World} {K : PySem.W.Frag} {a : Ad} {mg : Str → Option Value} {base : Heap} {f : Addr} {cdv : Value} {A : Around} {outer : List Env} {s : Shared} {H : Hp} {E : XK} (T : Blt mg) (k_law_apart_told : Cal P w K mg base "_law_apart_told" 8 ["_law_net_here", "_law_world_here", "_law_one", "_law_other"] (SpW K 4 (W_law_apart_told K a))) (k_law_twoway_told : Cal P w K mg base "_law_twoway_told" 4 ["_law_net_here"] (SpW K 1 (W_law_twoway_told K a))) (k_law_amount_between : Cal P w K mg base "_law_amount_between" 1 ["_law_ties", "_law_world_here", "_law_one", "_law_other"] (SpW K 4 (W_law_amount_between K a))) (k_law_handed : Cal P w K mg base "_law_handed" 2 ["_law_draws_here", "_law_lot_here"] (SpWD K 1 (W_law_handed K a))) (k_spared_apart : CalX P w K mg base "spared_apart" 7 ["net", "world", "one", "other"] (SpWX K 4 (W_spared_apart K a))) (k_law_int : Cal P w K mg base "_law_int" 1 ["_law_value"] (SpW K 1 (W_law_int K a))) (k_law_rest : Cal P w K mg base "_law_rest" 1 ["_law_size", "_law_lot_here"] (SpW K 2 (W_law_rest K a))) (k_spared : CalX P w K mg base "spared" 7 ["net", "world", "one", "other"] (SpWX K 4 (W_spared K a))) (k_cost : CalX P w K mg base "cost" 5 ["net", "world", "lot"] (SpWX K 3 (W_cost K a))) (r_gates : ∀ C sp, R_gates K a C sp → CalMX P w K mg base C "gates" 4 ["self", "lot"] sp) (hr : Room 8 (A.deeper (envOfC "_law_apart_right" (defScope s_law_apart_right) s.heap.objs.size f cdv))) :
    PSs (cxOf CX0 P w K mg base N_law_apart_right "_law_apart_right" (defScope s_law_apart_right) f cdv A outer s H E).nox (defBody s_law_apart_right) (t_law_apart_right K a) := by
  exact (pss_cons (ps_set (i := 7) sc_law_apart_right.nd rfl (by first | exact Or.inl rfl | exact Or.inr rfl) (pe_fld (pv 1) rfl))
    (pss_cons (ps_if (pt_cmpR op_eq (pv 2) pe_str (by first | exact nomark _ | rfl)) (pss_one (ps_ret (pe_and (pe_cmpR (op_eqD hr.units) (pe_cal k_law_apart_told hr (by decide) rfl (pa_cons (pv 1) (pa_cons pe_non (pa_cons pe_non (pa_cons pe_non pa_nil))))) (pe_lst (pa_cons pe_bl (pa_cons pe_bl pa_nil))) (by first | exact nomark _ | rfl)) (pe_one (pe_cmpR op_isLit (pe_cal k_law_twoway_told hr (by decide) rfl (pa_cons (pv 1) pa_nil)) pe_bl (by first | exact nomark _ | rfl)))))) pss_nil)
    (pss_cons (ps_if (pt_cmpR op_notN (pe_cal k_law_twoway_told hr (by decide) rfl (pa_cons (pv 1) pa_nil)) pe_non (by first | exact nomark _ | rfl)) (pss_one (ps_ret pe_bl)) pss_nil)
    (pss_cons (by first | exact (ps_setLc (i := 8) (own := [("_law_place", 14)]) rfl sc_law_apart_right.nd rfl rfl (sw_true rfl rfl rfl (by decide +kernel)) (pi_list (pv 5)) (blkOk_by (N := N_law_apart_right) (sc := defScope s_law_apart_right) (by decide +kernel)) (fun _ _ _ _ _ => (pg_name (i := 14) sc_law_apart_right.nd rfl (by first | exact Or.inl rfl | exact Or.inr rfl))) (fun _ _ _ _ _ => (pts_one (pt_cmpR op_in_seq (pv 14) (pv 6) (by first | exact nomark _ | rfl)))) (fun _ _ _ _ _ => (pv 14))) | exact (ps_set (i := 8) sc_law_apart_right.nd rfl (by first | exact Or.inl rfl | exact Or.inr rfl) (pe_lc (own := [("_law_place", 14)]) rfl sc_law_apart_right.nd (pi_list (pv 5)) (blkOk_by (N := N_law_apart_right) (sc := defScope s_law_apart_right) (by decide +kernel)) (fun _ _ _ _ _ => (pg_name (i := 14) sc_law_apart_right.nd rfl (by first | exact Or.inl rfl | exact Or.inr rfl))) (fun _ _ _ _ _ => (pts_one (pt_cmpR op_in_seq (pv 14) (pv 6) (by first | exact nomark _ | rfl)))) (fun _ _ _ _ _ => (pv 14)))))
    (pss_cons (by first | exact (ps_setLc (i := 9) (own := [("_law_place", 14)]) rfl sc_law_apart_right.nd rfl rfl (sw_true rfl rfl rfl (by decide +kernel)) (pi_range1 rfl T.range (pa_cons (pv 7) pa_nil)) (blkOk_by (N := N_law_apart_right) (sc := defScope s_law_apart_right) (by decide +kernel)) (fun _ _ _ _ _ => (pg_name (i := 14) sc_law_apart_right.nd rfl (by first | exact Or.inl rfl | exact Or.inr rfl))) (fun _ _ _ _ _ => (pts_one (PW.pt (pw_and (pt_cmpR op_notIn_seq (pv 14) (pv 5) (by first | exact nomark _ | rfl)) (pw_and1 (pt_cmpR op_notIn_seq (pv 14) (pv 6) (by first | exact nomark _ | rfl))))))) (fun _ _ _ _ _ => (pv 14))) | exact (ps_set (i := 9) sc_law_apart_right.nd rfl (by first | exact Or.inl rfl | exact Or.inr rfl) (pe_lc (own := [("_law_place", 14)]) rfl sc_law_apart_right.nd (pi_range1 rfl T.range (pa_cons (pv 7) pa_nil)) (blkOk_by (N := N_law_apart_right) (sc := defScope s_law_apart_right) (by decide +kernel)) (fun _ _ _ _ _ => (pg_name (i := 14) sc_law_apart_right.nd rfl (by first | exact Or.inl rfl | exact Or.inr rfl))) (fun _ _ _ _ _ => (pts_one (PW.pt (pw_and (pt_cmpR op_notIn_seq (pv 14) (pv 5) (by first | exact nomark _ | rfl)) (pw_and1 (pt_cmpR op_notIn_seq (pv 14) (pv 6) (by first | exact nomark _ | rfl))))))) (fun _ _ _ _ _ => (pv 14)))))
    (pss_cons (ps_set (i := 10) sc_law_apart_right.nd rfl (by first | exact Or.inl rfl | exact Or.inr rfl) (pe_op op_mul pe_int (pe_cal k_law_amount_between hr (by decide) rfl (pa_cons (pv 3) (pa_cons (pv 4) (pa_cons (pv 8) (pa_cons (pv 9) pa_nil)))))))
    (pss_cons (ps_set (i := 11) sc_law_apart_right.nd rfl (by first | exact Or.inl rfl | exact Or.inr rfl) (pe_calX k_spared_apart hr (by decide) rfl (pa_cons (pv 1) (pa_cons (pe_callTy call_list_of (by rfl) T.list (by decide +kernel) (pa_cons (pv 4) pa_nil)) (pa_cons (pe_cal k_law_handed hr (by decide) rfl (pa_cons (pv 0) (pa_cons (pv 5) pa_nil))) (pa_cons (pe_cal k_law_handed hr (by decide) rfl (pa_cons (pv 0) (pa_cons (pv 6) pa_nil))) pa_nil))))))
    (pss_cons (ps_if (PW.pt (pw_or (pt_not (pt_val (pe_cal k_law_int hr (by decide) rfl (pa_cons (pv 11) pa_nil)))) (pw_or (pt_cmpR op_ne (pv 11) (pv 10) (by first | exact nomark _ | rfl)) (pw_or1 (pt_cmpR op_ne (pe_calX k_spared hr (by decide) rfl (pa_cons (pv 1) (pa_cons (pv 4) (pa_cons (pv 5) (pa_cons (pe_cal k_law_rest hr (by decide) rfl (pa_cons (pv 7) (pa_cons (pv 6) pa_nil))) pa_nil))))) (pv 10) (by first | exact nomark _ | rfl)))))) (pss_one (ps_ret pe_bl)) pss_nil)
    (pss_cons (ps_set (i := 12) sc_law_apart_right.nd rfl (by first | exact Or.inl rfl | exact Or.inr rfl) (pe_calX k_cost hr (by decide) rfl (pa_cons (pv 1) (pa_cons (pv 4) (pa_cons (pe_lc (own := [("_law_place", 14)]) rfl sc_law_apart_right.nd (pi_list (pv 5)) (blkOk_by (N := N_law_apart_right) (sc := defScope s_law_apart_right) (by decide +kernel)) (fun _ _ _ _ _ => (pg_name (i := 14) sc_law_apart_right.nd rfl (by first | exact Or.inl rfl | exact Or.inr rfl))) (fun _ _ _ _ _ => (pts_one (pt_cmpR op_notIn_seq (pv 14) (pv 6) (by first | exact nomark _ | rfl)))) (fun _ _ _ _ _ => (pv 14))) pa_nil)))))
    (pss_cons (ps_set (i := 13) sc_law_apart_right.nd rfl (by first | exact Or.inl rfl | exact Or.inr rfl) (pe_calX k_cost hr (by decide) rfl (pa_cons (pv 1) (pa_cons (pv 4) (pa_cons (pe_lc (own := [("_law_place", 14)]) rfl sc_law_apart_right.nd (pi_list (pv 6)) (blkOk_by (N := N_law_apart_right) (sc := defScope s_law_apart_right) (by decide +kernel)) (fun _ _ _ _ _ => (pg_name (i := 14) sc_law_apart_right.nd rfl (by first | exact Or.inl rfl | exact Or.inr rfl))) (fun _ _ _ _ _ => (pts_one (pt_cmpR op_notIn_seq (pv 14) (pv 5) (by first | exact nomark _ | rfl)))) (fun _ _ _ _ _ => (pv 14))) pa_nil)))))
    (pss_cons (ps_if (pt_cmpR op_ne (pe_op op_sub (pe_op op_sub (pe_op op_add (pe_calX k_cost hr (by decide) rfl (pa_cons (pv 1) (pa_cons (pv 4) (pa_cons (pv 5) pa_nil)))) (pe_calX k_cost hr (by decide) rfl (pa_cons (pv 1) (pa_cons (pv 4) (pa_cons (pv 6) pa_nil))))) (pv 12)) (pv 13)) (pv 10) (by first | exact nomark _ | rfl)) (pss_one (ps_ret pe_bl)) pss_nil)
    (pss_one (ps_ret (pe_cmpR (op_eqD hr.units) (pe_methUX r_gates (pv 1) hr (by decide) passL (pa_cons (pv 5) pa_nil)) (pe_methUX r_gates (pv 1) hr (by decide) passL (pa_cons (pe_cal k_law_rest hr (by decide) rfl (pa_cons (pv 7) (pa_cons (pv 5) pa_nil))) pa_nil)) (by first | exact nomark _ | rfl)))))))))))))))
abbrev s_law_refused : Stmt := top 82
theorem sc_law_refused : FnScope N_law_refused ["_law_draws_here", "_law_net_here", "_law_world_here", "_law_one"] (defScope s_law_refused) := ⟨rfl, rfl, rfl, by decide +kernel, rfl, by decide +kernel, by decide +kernel⟩
theorem der_law_refused {P : Program} {w : World} {K : PySem.W.Frag} {a : Ad} {mg : Str → Option Value} {base : Heap} {f : Addr} {cdv : Value} {A : Around} {outer : List Env} {s : Shared} {H : Hp} {E : XK} (T : Blt mg) (k_law_bad_lot : Cal P w K mg base "_law_bad_lot" 2 ["_law_draws_here", "_law_good", "_law_size"] (SpWD K 2 (W_law_bad_lot K a))) (k_law_take : Cal P w K mg base "_law_take" 1 ["_law_draws_here", "_law_many"] (SpTake K)) (k_law_lot_door : Cal P w K mg base "_law_lot_door" 8 ["_law_word", "_law_net_here", "_law_world_here", "_law_lot_here"] (SpW K 4 (W_law_lot_door K a))) (k_law_bad_world : Cal P w K mg base "_law_bad_world" 2 ["_law_draws_here", "_law_world_here"] (SpWD K 1 (W_law_bad_world K a))) (k_law_world_told : Cal P w K mg base "_law_world_told" 8 ["_law_word", "_law_net_here", "_law_world_here", "_law_lot_here"] (SpW K 4 (W_law_world_told K a))) (k_law_apart_told : Cal P w K mg base "_law_apart_told" 8 ["_law_net_here", "_law_world_here", "_law_one", "_law_other"] (SpW K 4 (W_law_apart_told K a))) (hr : Room 8 (A.deeper (envOfC "_law_refused" (defScope s_law_refused) s.heap.objs.size f cdv))) (hG : (A.deeper (envOfC "_law_refused" (defScope s_law_refused) s.heap.objs.size f cdv)).guards = some []) :
    PSs (cxOf CX0 P w K mg base N_law_refused "_law_refused" (defScope s_law_refused) f cdv A outer s H E).nox (defBody s_law_refused) (t_law_refused K a) := by
  exact (pss_cons (ps_set (i := 4) sc_law_refused.nd rfl (by first | exact Or.inl rfl | exact Or.inr rfl) (pe_cal k_law_bad_lot hr (by decide) rfl (pa_cons (pv 0) (pa_cons (pe_callTy call_list_of (by rfl) T.list (by decide +kernel) (pa_cons (pv 3) pa_nil)) (pa_cons (pe_fld (pv 1) rfl) pa_nil)))))
    (pss_cons (ps_set (i := 5) sc_law_refused.nd rfl (by first | exact Or.inl rfl | exact Or.inr rfl) (pe_callB (cr_reprA hG hr) (by rfl) T.repr (by decide +kernel) (pa_cons (pe_ix ix_list (pv 4) pe_int (fun _ _ => rfl)) pa_nil)))
    (pss_cons (ps_for PassesOwn.never rfl (pi_range1 rfl T.range (pa_cons pe_int pa_nil)) (pg_name (i := 6) sc_law_refused.nd rfl (by first | exact Or.inl rfl | exact Or.inr rfl)) (pss_one (ps_if (pt_cmpR (op_neD hr.units) (pe_cal k_law_lot_door hr (by decide) rfl (pa_cons (pe_cal k_law_take hr (by decide) rfl (pa_cons (pv 0) (pa_cons pe_int pa_nil))) (pa_cons (pv 1) (pa_cons (pv 2) (pa_cons (pe_ix ix_list (pv 4) pe_int (fun _ _ => rfl)) pa_nil))))) (pe_lst (pa_cons (pe_ix ix_list (pv 4) pe_int (fun _ _ => rfl)) (pa_cons pe_bl (pa_cons pe_bl pa_nil)))) (by first | exact nomark _ | rfl)) (pss_one (ps_ret pe_bl)) pss_nil)))
    (pss_cons (ps_set (i := 7) sc_law_refused.nd rfl (by first | exact Or.inl rfl | exact Or.inr rfl) (pe_cal k_law_bad_world hr (by decide) rfl (pa_cons (pv 0) (pa_cons (pv 2) pa_nil))))
    (pss_cons (ps_for PassesOwn.never rfl (pi_range1 rfl T.range (pa_cons pe_int pa_nil)) (pg_name (i := 8) sc_law_refused.nd rfl (by first | exact Or.inl rfl | exact Or.inr rfl)) (pss_one (ps_if (pt_cmpR (op_neD hr.units) (pe_cal k_law_world_told hr (by decide) rfl (pa_cons (pv 8) (pa_cons (pv 1) (pa_cons (pe_ix ix_list (pv 7) pe_int (fun _ _ => rfl)) (pa_cons (pe_ix ix_list (pv 4) pe_int (fun _ _ => rfl)) pa_nil))))) (pe_lst (pa_cons (pe_ix ix_list (pv 7) pe_int (fun _ _ => rfl)) (pa_cons pe_bl (pa_cons pe_bl pa_nil)))) (by first | exact nomark _ | rfl)) (pss_one (ps_ret pe_bl)) pss_nil)))
    (pss_cons (ps_if (pt_cmpR op_eq (pe_con (pv 1) rfl) pe_str (by first | exact nomark _ | rfl)) (pss_cons (ps_if (pt_cmpR (op_neD hr.units) (pe_cal k_law_apart_told hr (by decide) rfl (pa_cons (pv 1) (pa_cons (pe_ix ix_list (pv 7) pe_int (fun _ _ => rfl)) (pa_cons (pe_ix ix_list (pv 4) pe_int (fun _ _ => rfl)) (pa_cons (pe_lst (pa_cons pe_int (pa_cons pe_int pa_nil))) pa_nil))))) (pe_tup (pa_cons pe_str (pa_cons (pe_ix ix_list (pv 7) pe_int (fun _ _ => rfl)) pa_nil))) (by first | exact nomark _ | rfl)) (pss_one (ps_ret pe_bl)) pss_nil)
    (pss_one (ps_if (PW.pt (pw_or (pt_cmpR (op_neD hr.units) (pe_cal k_law_apart_told hr (by decide) rfl (pa_cons (pv 1) (pa_cons (pv 2) (pa_cons (pe_ix ix_list (pv 4) pe_int (fun _ _ => rfl)) (pa_cons (pe_lst (pa_cons pe_int (pa_cons pe_int pa_nil))) pa_nil))))) (pe_ix ix_list (pv 4) pe_int (fun _ _ => rfl)) (by first | exact nomark _ | rfl)) (pw_or1 (pt_cmpR (op_neD hr.units) (pe_cal k_law_apart_told hr (by decide) rfl (pa_cons (pv 1) (pa_cons (pv 2) (pa_cons (pe_lst pa_nil) (pa_cons (pe_ix ix_list (pv 4) pe_int (fun _ _ => rfl)) pa_nil))))) (pe_ix ix_list (pv 4) pe_int (fun _ _ => rfl)) (by first | exact nomark _ | rfl))))) (pss_one (ps_ret pe_bl)) pss_nil))) pss_nil)
    (pss_one (ps_ret (pe_cmpR op_eq (pe_callB (cr_reprA hG hr) (by rfl) T.repr (by decide +kernel) (pa_cons (pe_ix ix_list (pv 4) pe_int (fun _ _ => rfl)) pa_nil)) (pv 5) (by first | exact nomark _ | rfl))))))))))
abbrev s_law : Stmt := top 83
theorem sc_law : FnScope N_law ["_law_script"] (defScope s_law) := ⟨rfl, rfl, rfl, by decide +kernel, rfl, by decide +kernel, by decide +kernel⟩
theorem der_law {P : Program} {w : World} {K : PySem.W.Frag} {a : Ad} {mg : Str → Option Value} {base : Heap} {f : Addr} {cdv : Value} {A : Around} {outer : List Env} {s : Shared} {H : Hp} {E : XK} (T : Blt mg) (k_law_draws : Cal P w K mg base "_law_draws" 1 ["_law_script"] (spDraws K)) (k_law_kind : Cal P w K mg base "_law_kind" 2 ["_law_draws_here"] (SpWD K 0 (W_law_kind K a))) (k_law_any_net : Cal P w K mg base "_law_any_net" 4 ["_law_draws_here"] (SpWD K 0 (W_law_any_net K a))) (k_law_world : Cal P w K mg base "_law_world" 2 ["_law_draws_here", "_law_many"] (SpWD K 1 (W_law_world K a))) (k_law_lot : Cal P w K mg base "_law_lot" 2 ["_law_draws_here", "_law_size"] (SpWD K 1 (W_law_lot K a))) (k_law_built : Cal P w K mg base "_law_built" 7 ["_law_kind_here", "_law_size", "_law_ties"] (SpW K 3 (W_law_built K a))) (k_law_amount_between : Cal P w K mg base "_law_amount_between" 1 ["_law_ties", "_law_world_here", "_law_one", "_law_other"] (SpW K 4 (W_law_amount_between K a))) (k_law_handed : Cal P w K mg base "_law_handed" 2 ["_law_draws_here", "_law_lot_here"] (SpWD K 1 (W_law_handed K a))) (k_spared : CalX P w K mg base "spared" 7 ["net", "world", "one", "other"] (SpWX K 4 (W_spared K a))) (k_law_int : Cal P w K mg base "_law_int" 1 ["_law_value"] (SpW K 1 (W_law_int K a))) (k_law_four : Cal P w K mg base "_law_four" 6 ["_law_draws_here", "_law_net_here", "_law_world_here", "_law_one", "_law_other"] (SpWD K 4 (W_law_four K a))) (k_law_apart_right : Cal P w K mg base "_law_apart_right" 9 ["_law_draws_here", "_law_net_here", "_law_kind_here", "_law_ties", "_law_world_here", "_law_one", "_law_other"] (SpWD K 6 (W_law_apart_right K a))) (k_law_corners_right : Cal P w K mg base "_law_corners_right" 6 ["_law_draws_here", "_law_size", "_law_one", "_law_other"] (SpWD K 3 (W_law_corners_right K a))) (k_law_refused : CalG P w K mg base "_law_refused" 9 ["_law_draws_here", "_law_net_here", "_law_world_here", "_law_one"] (SpWD K 3 (W_law_refused K a))) (k_law_listed_right : Cal P w K mg base "_law_listed_right" 9 ["_law_size"] (SpW K 1 (W_law_listed_right K a))) (hr : Room 9 (A.deeper (envOfC "law" (defScope s_law) s.heap.objs.size f cdv))) (hG : (A.deeper (envOfC "law" (defScope s_law) s.heap.objs.size f cdv)).guards = some []) :
    PSs (cxOf CX0 P w K mg base N_law "law" (defScope s_law) f cdv A outer s H E).nox (defBody s_law) (t_law K a) := by
  exact (pss_cons (ps_set (i := 1) sc_law.nd rfl (by first | exact Or.inl rfl | exact Or.inr rfl) (pe_cal k_law_draws hr (by decide) rfl (pa_cons (pv 0) pa_nil)))
    (pss_cons (ps_set (i := 2) sc_law.nd rfl (by first | exact Or.inl rfl | exact Or.inr rfl) (pe_cal k_law_kind hr (by decide) rfl (pa_cons (pv 1) pa_nil)))
    (pss_cons (ps_set (i := 3) sc_law.nd rfl (by first | exact Or.inl rfl | exact Or.inr rfl) (pe_cal k_law_any_net hr (by decide) rfl (pa_cons (pv 1) pa_nil)))
    (pss_cons (ps_set (i := 4) sc_law.nd rfl (by first | exact Or.inl rfl | exact Or.inr rfl) (pe_ix ix_list (pv 3) pe_int (fun _ _ => rfl)))
    (pss_cons (ps_set (i := 5) sc_law.nd rfl (by first | exact Or.inl rfl | exact Or.inr rfl) (pe_ix ix_list (pv 3) pe_int (fun _ _ => rfl)))
    (pss_cons (ps_set (i := 6) sc_law.nd rfl (by first | exact Or.inl rfl | exact Or.inr rfl) (pe_cal k_law_world hr (by decide) rfl (pa_cons (pv 1) (pa_cons (pe_callB call_len_seq (by rfl) T.len (by decide +kernel) (pa_cons (pv 5) pa_nil)) pa_nil))))
    (pss_cons (ps_set (i := 7) sc_law.nd rfl (by first | exact Or.inl rfl | exact Or.inr rfl) (pe_cal k_law_lot hr (by decide) rfl (pa_cons (pv 1) (pa_cons (pv 4) pa_nil))))
    (pss_cons (ps_set (i := 8) sc_law.nd rfl (by first | exact Or.inl rfl | exact Or.inr rfl) (pe_cal k_law_lot hr (by decide) rfl (pa_cons (pv 1) (pa_cons (pv 4) pa_nil))))
    (pss_cons (ps_set (i := 9) sc_law.nd rfl (by first | exact Or.inl rfl | exact Or.inr rfl) (pe_cal k_law_built hr (by decide) rfl (pa_cons (pv 2) (pa_cons (pv 4) (pa_cons (pv 5) pa_nil)))))
    (pss_cons (ps_set (i := 10) sc_law.nd rfl (by first | exact Or.inl rfl | exact Or.inr rfl) (pe_callB (cr_reprA hG hr) (by rfl) T.repr (by decide +kernel) (pa_cons (pe_lst (pa_cons (pv 5) (pa_cons (pv 6) (pa_cons (pv 7) (pa_cons (pv 8) pa_nil))))) pa_nil)))
    (pss_cons (by first | exact (ps_setLc (i := 11) (own := [("_law_place", 15)]) rfl sc_law.nd rfl rfl (sw_true rfl rfl rfl (by decide +kernel)) (pi_list (pv 7)) (blkOk_by (N := N_law) (sc := defScope s_law) (by decide +kernel)) (fun _ _ _ _ _ => (pg_name (i := 15) sc_law.nd rfl (by first | exact Or.inl rfl | exact Or.inr rfl))) (fun _ _ _ _ _ => (pts_one (pt_cmpR op_notIn_seq (pv 15) (pv 8) (by first | exact nomark _ | rfl)))) (fun _ _ _ _ _ => (pv 15))) | exact (ps_set (i := 11) sc_law.nd rfl (by first | exact Or.inl rfl | exact Or.inr rfl) (pe_lc (own := [("_law_place", 15)]) rfl sc_law.nd (pi_list (pv 7)) (blkOk_by (N := N_law) (sc := defScope s_law) (by decide +kernel)) (fun _ _ _ _ _ => (pg_name (i := 15) sc_law.nd rfl (by first | exact Or.inl rfl | exact Or.inr rfl))) (fun _ _ _ _ _ => (pts_one (pt_cmpR op_notIn_seq (pv 15) (pv 8) (by first | exact nomark _ | rfl)))) (fun _ _ _ _ _ => (pv 15)))))
    (pss_cons (by first | exact (ps_setLc (i := 12) (own := [("_law_place", 15)]) rfl sc_law.nd rfl rfl (sw_true rfl rfl rfl (by decide +kernel)) (pi_list (pv 8)) (blkOk_by (N := N_law) (sc := defScope s_law) (by decide +kernel)) (fun _ _ _ _ _ => (pg_name (i := 15) sc_law.nd rfl (by first | exact Or.inl rfl | exact Or.inr rfl))) (fun _ _ _ _ _ => (pts_one (pt_cmpR op_notIn_seq (pv 15) (pv 7) (by first | exact nomark _ | rfl)))) (fun _ _ _ _ _ => (pv 15))) | exact (ps_set (i := 12) sc_law.nd rfl (by first | exact Or.inl rfl | exact Or.inr rfl) (pe_lc (own := [("_law_place", 15)]) rfl sc_law.nd (pi_list (pv 8)) (blkOk_by (N := N_law) (sc := defScope s_law) (by decide +kernel)) (fun _ _ _ _ _ => (pg_name (i := 15) sc_law.nd rfl (by first | exact Or.inl rfl | exact Or.inr rfl))) (fun _ _ _ _ _ => (pts_one (pt_cmpR op_notIn_seq (pv 15) (pv 7) (by first | exact nomark _ | rfl)))) (fun _ _ _ _ _ => (pv 15)))))
    (pss_cons (ps_set (i := 13) sc_law.nd rfl (by first | exact Or.inl rfl | exact Or.inr rfl) (pe_cal k_law_amount_between hr (by decide) rfl (pa_cons (pv 5) (pa_cons (pv 6) (pa_cons (pv 11) (pa_cons (pv 12) pa_nil))))))
    (pss_cons (ps_if (pt_cmpR op_eq (pv 2) pe_str (by first | exact nomark _ | rfl)) (pss_one (ps_set (i := 13) sc_law.nd rfl (by first | exact Or.inl rfl | exact Or.inr rfl) (pe_op op_mul pe_int (pv 13)))) pss_nil)
    (pss_cons (ps_set (i := 14) sc_law.nd rfl (by first | exact Or.inl rfl | exact Or.inr rfl) (pe_calX k_spared hr (by decide) rfl (pa_cons (pv 9) (pa_cons (pe_callTy call_tuple_of (by rfl) T.tuple (by decide +kernel) (pa_cons (pv 6) pa_nil)) (pa_cons (pe_cal k_law_handed hr (by decide) rfl (pa_cons (pv 1) (pa_cons (pv 7) pa_nil))) (pa_cons (pe_cal k_law_handed hr (by decide) rfl (pa_cons (pv 1) (pa_cons (pv 8) pa_nil))) pa_nil))))))
    (pss_cons (ps_if (PW.pt (pw_or (pt_not (pt_val (pe_cal k_law_int hr (by decide) rfl (pa_cons (pv 14) pa_nil)))) (pw_or (pt_cmpR op_ne (pv 14) (pv 13) (by first | exact nomark _ | rfl)) (pw_or1 (pt_cmpR op_ne (pe_calX k_spared hr (by decide) rfl (pa_cons (pv 9) (pa_cons (pv 6) (pa_cons (pv 8) (pa_cons (pv 7) pa_nil))))) (pv 13) (by first | exact nomark _ | rfl)))))) (pss_one (ps_ret pe_bl)) pss_nil)
    (pss_cons (ps_if (pt_cmpR op_ne (pe_cal k_law_four hr (by decide) rfl (pa_cons (pv 1) (pa_cons (pv 9) (pa_cons (pv 6) (pa_cons (pv 7) (pa_cons (pv 8) pa_nil)))))) (pv 13) (by first | exact nomark _ | rfl)) (pss_one (ps_ret pe_bl)) pss_nil)
    (pss_cons (ps_if (pt_not (pt_val (pe_cal k_law_apart_right hr (by decide) rfl (pa_cons (pv 1) (pa_cons (pv 9) (pa_cons (pv 2) (pa_cons (pv 5) (pa_cons (pv 6) (pa_cons (pv 7) (pa_cons (pv 8) pa_nil)))))))))) (pss_one (ps_ret pe_bl)) pss_nil)
    (pss_cons (ps_if (PW.pt (pw_or (pt_not (pt_val (pe_cal k_law_corners_right hr (by decide) rfl (pa_cons (pv 1) (pa_cons (pv 4) (pa_cons (pv 7) (pa_cons (pv 8) pa_nil))))))) (pw_or1 (pt_not (pt_val (pe_calG k_law_refused hG hr (by decide) rfl (pa_cons (pv 1) (pa_cons (pv 9) (pa_cons (pv 6) (pa_cons (pv 7) pa_nil)))))))))) (pss_one (ps_ret pe_bl)) pss_nil)
    (pss_cons (ps_if (PW.pt (pw_or (pt_cmpR op_ne (pe_calX k_spared hr (by decide) rfl (pa_cons (pv 9) (pa_cons (pv 6) (pa_cons (pv 7) (pa_cons (pv 8) pa_nil))))) (pv 13) (by first | exact nomark _ | rfl)) (pw_or1 (pt_not (pt_val (pe_cal k_law_listed_right hr (by decide) rfl (pa_cons (pv 4) pa_nil))))))) (pss_one (ps_ret pe_bl)) pss_nil)
    (pss_one (ps_ret (pe_cmpR op_eq (pe_callB (cr_reprA hG hr) (by rfl) T.repr (by decide +kernel) (pa_cons (pe_lst (pa_cons (pv 5) (pa_cons (pv 6) (pa_cons (pv 7) (pa_cons (pv 8) pa_nil))))) pa_nil)) (pv 10) (by first | exact nomark _ | rfl))))))))))))))))))))))))
end K02
namespace K02
open PySem PySem.Spec PyProof.Rows L2 Evl DL PL
variable [DL.Tb]
def PT : Addr := 341
abbrev s_err_BadWorld : Stmt := inClass (top 8) 0
theorem sc_err_BadWorld : FnScope ["self", "at"] ["self", "at"] (defScope s_err_BadWorld) := ⟨rfl, rfl, rfl, by decide +kernel, rfl, by decide +kernel, by decide +kernel⟩
abbrev s_err_BadLot : Stmt := inClass (top 6) 0
theorem sc_err_BadLot : FnScope ["self", "at"] ["self", "at"] (defScope s_err_BadLot) := ⟨rfl, rfl, rfl, by decide +kernel, rfl, by decide +kernel, by decide +kernel⟩
abbrev s_err_NotInside : Stmt := inClass (top 12) 0
theorem sc_err_NotInside : FnScope ["self", "place"] ["self", "place"] (defScope s_err_NotInside) := ⟨rfl, rfl, rfl, by decide +kernel, rfl, by decide +kernel, by decide +kernel⟩
abbrev s_err_TooMany : Stmt := inClass (top 13) 0
theorem sc_err_TooMany : FnScope ["self", "size"] ["self", "size"] (defScope s_err_TooMany) := ⟨rfl, rfl, rfl, by decide +kernel, rfl, by decide +kernel, by decide +kernel⟩
def d_is_integer : He.DefD := ⟨("is_integer", none), "is_integer", "is_integer", defArgs s_is_integer, defBody s_is_integer, defScope s_is_integer, [], []⟩
def d_is_row : He.DefD := ⟨("is_row", none), "is_row", "is_row", defArgs s_is_row, defBody s_is_row, defScope s_is_row, [], []⟩
def d_first_wrong : He.DefD := ⟨("first_wrong", none), "first_wrong", "first_wrong", defArgs s_first_wrong, defBody s_first_wrong, defScope s_first_wrong, [], []⟩
def d_both : He.DefD := ⟨("both", none), "both", "both", defArgs s_both, defBody s_both, defScope s_both, [], []⟩
def d_common : He.DefD := ⟨("common", none), "common", "common", defArgs s_common, defBody s_common, defScope s_common, [], []⟩
def d_minus : He.DefD := ⟨("minus", none), "minus", "minus", defArgs s_minus, defBody s_minus, defScope s_minus, [], []⟩
def d_rest : He.DefD := ⟨("rest", none), "rest", "rest", defArgs s_rest, defBody s_rest, defScope s_rest, [], []⟩
def d_by_size : He.DefD := ⟨("by_size", none), "by_size", "by_size", defArgs s_by_size, defBody s_by_size, defScope s_by_size, [], []⟩
def d_amount : He.DefD := ⟨("amount", none), "amount", "amount", defArgs s_amount, defBody s_amount, defScope s_amount, [], []⟩
def d_law_draws : He.DefD := ⟨("_law_draws", none), "_law_draws", "_law_draws", defArgs s_law_draws, defBody s_law_draws, defScope s_law_draws, [], []⟩
def d_law_take : He.DefD := ⟨("_law_take", none), "_law_take", "_law_take", defArgs s_law_take, defBody s_law_take, defScope s_law_take, [], []⟩
def d_law_int : He.DefD := ⟨("_law_int", none), "_law_int", "_law_int", defArgs s_law_int, defBody s_law_int, defScope s_law_int, [], []⟩
def d_law_rest : He.DefD := ⟨("_law_rest", none), "_law_rest", "_law_rest", defArgs s_law_rest, defBody s_law_rest, defScope s_law_rest, [], []⟩
def d_law_amount_between : He.DefD := ⟨("_law_amount_between", none), "_law_amount_between", "_law_amount_between", defArgs s_law_amount_between, defBody s_law_amount_between, defScope s_law_amount_between, [], []⟩
def d_is_index : He.DefD := ⟨("is_index", none), "is_index", "is_index", defArgs s_is_index, defBody s_is_index, defScope s_is_index, [], []⟩
def d_wrong_member : He.DefD := ⟨("wrong_member", none), "wrong_member", "wrong_member", defArgs s_wrong_member, defBody s_wrong_member, defScope s_wrong_member, [], []⟩
def d_lots_inside : He.DefD := ⟨("lots_inside", none), "lots_inside", "lots_inside", defArgs s_lots_inside, defBody s_lots_inside, defScope s_lots_inside, [], []⟩
def d_law_lot_ok : He.DefD := ⟨("_law_lot_ok", none), "_law_lot_ok", "_law_lot_ok", defArgs s_law_lot_ok, defBody s_law_lot_ok, defScope s_law_lot_ok, [], []⟩
def d_law_told_net : He.DefD := ⟨("_law_told_net", none), "_law_told_net", "_law_told_net", defArgs s_law_told_net, defBody s_law_told_net, defScope s_law_told_net, [], []⟩
def d_law_free_ties : He.DefD := ⟨("_law_free_ties", none), "_law_free_ties", "_law_free_ties", defArgs s_law_free_ties, defBody s_law_free_ties, defScope s_law_free_ties, [], []⟩
def d_law_kind : He.DefD := ⟨("_law_kind", none), "_law_kind", "_law_kind", defArgs s_law_kind, defBody s_law_kind, defScope s_law_kind, [], []⟩
def d_law_world : He.DefD := ⟨("_law_world", none), "_law_world", "_law_world", defArgs s_law_world, defBody s_law_world, defScope s_law_world, [], []⟩
def d_law_lot : He.DefD := ⟨("_law_lot", none), "_law_lot", "_law_lot", defArgs s_law_lot, defBody s_law_lot, defScope s_law_lot, [], []⟩
def d_law_handed : He.DefD := ⟨("_law_handed", none), "_law_handed", "_law_handed", defArgs s_law_handed, defBody s_law_handed, defScope s_law_handed, [], []⟩
def d_law_bad_lot : He.DefD := ⟨("_law_bad_lot", none), "_law_bad_lot", "_law_bad_lot", defArgs s_law_bad_lot, defBody s_law_bad_lot, defScope s_law_bad_lot, [], []⟩
def d_law_bad_world : He.DefD := ⟨("_law_bad_world", none), "_law_bad_world", "_law_bad_world", defArgs s_law_bad_world, defBody s_law_bad_world, defScope s_law_bad_world, [], []⟩
def d_is_pair : He.DefD := ⟨("is_pair", none), "is_pair", "is_pair", defArgs s_is_pair, defBody s_is_pair, defScope s_is_pair, [], []⟩
def d_good_size : He.DefD := ⟨("good_size", none), "good_size", "good_size", defArgs s_good_size, defBody s_good_size, defScope s_good_size, [], []⟩
def d_good_lot : He.DefD := ⟨("good_lot", none), "good_lot", "good_lot", defArgs s_good_lot, defBody s_good_lot, defScope s_good_lot, [], []⟩
def d_good_world : He.DefD := ⟨("good_world", none), "good_world", "good_world", defArgs s_good_world, defBody s_good_world, defScope s_good_world, [], []⟩
def d_need_apart : He.DefD := ⟨("need_apart", none), "need_apart", "need_apart", defArgs s_need_apart, defBody s_need_apart, defScope s_need_apart, [], []⟩
def d_need_inside : He.DefD := ⟨("need_inside", none), "need_inside", "need_inside", defArgs s_need_inside, defBody s_need_inside, defScope s_need_inside, [], []⟩
def d_need_listed : He.DefD := ⟨("need_listed", none), "need_listed", "need_listed", defArgs s_need_listed, defBody s_need_listed, defScope s_need_listed, [.int 8], []⟩
def d_check_twoway : He.DefD := ⟨("check_twoway", none), "check_twoway", "check_twoway", defArgs s_check_twoway, defBody s_check_twoway, defScope s_check_twoway, [], []⟩
def d_law_net : He.DefD := ⟨("_law_net", none), "_law_net", "_law_net", defArgs s_law_net, defBody s_law_net, defScope s_law_net, [], []⟩
def d_lot_of : He.DefD := ⟨("lot_of", none), "lot_of", "lot_of", defArgs s_lot_of, defBody s_lot_of, defScope s_lot_of, [], []⟩
def d_lots_between : He.DefD := ⟨("lots_between", none), "lots_between", "lots_between", defArgs s_lots_between, defBody s_lots_between, defScope s_lots_between, [], []⟩
def d_corners : He.DefD := ⟨("corners", none), "corners", "corners", defArgs s_corners, defBody s_corners, defScope s_corners, [], []⟩
def d_good_ends : He.DefD := ⟨("good_ends", none), "good_ends", "good_ends", defArgs s_good_ends, defBody s_good_ends, defScope s_good_ends, [], []⟩
def d_world_of : He.DefD := ⟨("world_of", none), "world_of", "world_of", defArgs s_world_of, defBody s_world_of, defScope s_world_of, [], []⟩
def d_law_any_net : He.DefD := ⟨("_law_any_net", none), "_law_any_net", "_law_any_net", defArgs s_law_any_net, defBody s_law_any_net, defScope s_law_any_net, [], []⟩
def d_law_twoway_told : He.DefD := ⟨("_law_twoway_told", none), "_law_twoway_told", "_law_twoway_told", defArgs s_law_twoway_told, defBody s_law_twoway_told, defScope s_law_twoway_told, [], []⟩
def d_crosses : He.DefD := ⟨("crosses", none), "crosses", "crosses", defArgs s_crosses, defBody s_crosses, defScope s_crosses, [], []⟩
def d_cost : He.DefD := ⟨("cost", none), "cost", "cost", defArgs s_cost, defBody s_cost, defScope s_cost, [], []⟩
def d_costs_less : He.DefD := ⟨("costs_less", none), "costs_less", "costs_less", defArgs s_costs_less, defBody s_costs_less, defScope s_costs_less, [], []⟩
def d_law_four : He.DefD := ⟨("_law_four", none), "_law_four", "_law_four", defArgs s_law_four, defBody s_law_four, defScope s_law_four, [], []⟩
def d_law_corners_right : He.DefD := ⟨("_law_corners_right", none), "_law_corners_right", "_law_corners_right", defArgs s_law_corners_right, defBody s_law_corners_right, defScope s_law_corners_right, [], []⟩
def d_spared : He.DefD := ⟨("spared", none), "spared", "spared", defArgs s_spared, defBody s_spared, defScope s_spared, [], []⟩
def d_spared_apart : He.DefD := ⟨("spared_apart", none), "spared_apart", "spared_apart", defArgs s_spared_apart, defBody s_spared_apart, defScope s_spared_apart, [], []⟩
def d_law_built : He.DefD := ⟨("_law_built", none), "_law_built", "_law_built", defArgs s_law_built, defBody s_law_built, defScope s_law_built, [], []⟩
def d_law_lot_door : He.DefD := ⟨("_law_lot_door", none), "_law_lot_door", "_law_lot_door", defArgs s_law_lot_door, defBody s_law_lot_door, defScope s_law_lot_door, [], []⟩
def d_law_world_told : He.DefD := ⟨("_law_world_told", none), "_law_world_told", "_law_world_told", defArgs s_law_world_told, defBody s_law_world_told, defScope s_law_world_told, [], []⟩
def d_law_apart_told : He.DefD := ⟨("_law_apart_told", none), "_law_apart_told", "_law_apart_told", defArgs s_law_apart_told, defBody s_law_apart_told, defScope s_law_apart_told, [], []⟩
def d_law_listed_told : He.DefD := ⟨("_law_listed_told", none), "_law_listed_told", "_law_listed_told", defArgs s_law_listed_told, defBody s_law_listed_told, defScope s_law_listed_told, [], []⟩
def d_law_listed_right : He.DefD := ⟨("_law_listed_right", none), "_law_listed_right", "_law_listed_right", defArgs s_law_listed_right, defBody s_law_listed_right, defScope s_law_listed_right, [], []⟩
def d_law_apart_right : He.DefD := ⟨("_law_apart_right", none), "_law_apart_right", "_law_apart_right", defArgs s_law_apart_right, defBody s_law_apart_right, defScope s_law_apart_right, [], []⟩
def d_law_refused : He.DefD := ⟨("_law_refused", none), "_law_refused", "_law_refused", defArgs s_law_refused, defBody s_law_refused, defScope s_law_refused, [], []⟩
def d_law : He.DefD := ⟨("law", none), "law", "law", defArgs s_law, defBody s_law, defScope s_law, [], []⟩
def d_Oneway_gates : He.DefD := ⟨("Oneway", some "gates"), "gates", "Net.gates", defArgs s_Net_gates, defBody s_Net_gates, defScope s_Net_gates, [], []⟩
def d_Twoway_gates : He.DefD := ⟨("Twoway", some "gates"), "gates", "Twoway.gates", defArgs s_Twoway_gates, defBody s_Twoway_gates, defScope s_Twoway_gates, [], []⟩
def d_Oneway_inner : He.DefD := ⟨("Oneway", some "inner"), "inner", "Net.inner", defArgs s_Net_inner, defBody s_Net_inner, defScope s_Net_inner, [], []⟩
def d_Twoway_inner : He.DefD := ⟨("Twoway", some "inner"), "inner", "Net.inner", defArgs s_Net_inner, defBody s_Net_inner, defScope s_Net_inner, [], []⟩
def d_Oneway_between : He.DefD := ⟨("Oneway", some "between"), "between", "Net.between", defArgs s_Net_between, defBody s_Net_between, defScope s_Net_between, [], []⟩
def d_Twoway_between : He.DefD := ⟨("Twoway", some "between"), "between", "Net.between", defArgs s_Net_between, defBody s_Net_between, defScope s_Net_between, [], []⟩
def d_Oneway_init : He.DefD := ⟨("Oneway", some "__init__"), "__init__", "Net.__init__", defArgs s_Net__init_, defBody s_Net__init_, defScope s_Net__init_, [], []⟩
def d_Twoway_init : He.DefD := ⟨("Twoway", some "__init__"), "__init__", "Net.__init__", defArgs s_Net__init_, defBody s_Net__init_, defScope s_Net__init_, [], []⟩
def d_err_BadWorld : He.DefD := ⟨("BadWorld", some "__init__"), "__init__", "BadWorld.__init__", defArgs s_err_BadWorld, defBody s_err_BadWorld, defScope s_err_BadWorld, [], []⟩
def d_err_BadLot : He.DefD := ⟨("BadLot", some "__init__"), "__init__", "BadLot.__init__", defArgs s_err_BadLot, defBody s_err_BadLot, defScope s_err_BadLot, [], []⟩
def d_err_NotInside : He.DefD := ⟨("NotInside", some "__init__"), "__init__", "NotInside.__init__", defArgs s_err_NotInside, defBody s_err_NotInside, defScope s_err_NotInside, [], []⟩
def d_err_TooMany : He.DefD := ⟨("TooMany", some "__init__"), "__init__", "TooMany.__init__", defArgs s_err_TooMany, defBody s_err_TooMany, defScope s_err_TooMany, [], []⟩
def p_Oneway_many : PathD := ⟨propAt "Oneway" "many", "many", "Net.many", defArgs s_Net_many, defBody s_Net_many, defScope s_Net_many⟩
def p_Twoway_many : PathD := ⟨propAt "Twoway" "many", "many", "Net.many", defArgs s_Net_many, defBody s_Net_many, defScope s_Net_many⟩
def fo : List PathD := [p_Oneway_many, p_Twoway_many]
def errB (f : Str) (K : PySem.W.Frag) (C : Addr) : List Bool := [oexB K C, He.eqO (PySem.W.findIn K (.ref C) "__setattr__") (some (some (.builtin "object.__setattr__"))), decide (PySem.W.subIn K (.ref C) (.type "BaseException") = some true), decide (PySem.W.typeIn K (.ref C) = some (.type "type")), PySem.W.keepIn K (.ref C),
  xfB K C, He.eqO (PySem.W.findIn K (.ref C) f) (some none),
  He.eqO (PySem.W.findIn K (.ref C) "__init__") (some (some (.ref (He.ma K C "__init__")))), decide (PySem.W.typeIn K (.ref (He.ma K C "__init__")) = some (.type "function"))]
def ex0 (K : PySem.W.Frag) : List Bool := propB "Oneway" "many" K
def ex1 (K : PySem.W.Frag) : List Bool := propB "Twoway" "many" K
def ex2 (K : PySem.W.Frag) : List Bool := errB "at" K (He.ga K "BadWorld")
def ex3 (K : PySem.W.Frag) : List Bool := errB "at" K (He.ga K "BadLot")
def ex4 (K : PySem.W.Frag) : List Bool := errB "place" K (He.ga K "NotInside")
def ex5 (K : PySem.W.Frag) : List Bool := errB "size" K (He.ga K "TooMany")
def ex6 (K : PySem.W.Frag) : List Bool := [He.conB K "Oneway" "KIND" (He.Dv.str "oneway"), He.conB K "Twoway" "KIND" (He.Dv.str "twoway")]
def ex7 (K : PySem.W.Frag) : List Bool := [decide (PySem.W.exmOne K (.ref (He.ga K "BadWorld")) (.ref (He.ga K "BadLot")) = some false), decide (PySem.W.exmOne K (.ref (He.ga K "BadWorld")) (.ref (He.ga K "BadWorld")) = some true), decide (PySem.W.exmOne K (.ref (He.ga K "BadWorld")) (.ref (He.ga K "NotInside")) = some false), decide (PySem.W.exmOne K (.ref (He.ga K "BadWorld")) (.ref (He.ga K "NotTwoway")) = some false), decide (PySem.W.exmOne K (.ref (He.ga K "BadWorld")) (.ref (He.ga K "TooMany")) = some false), decide (PySem.W.exmOne K (.ref (He.ga K "BadLot")) (.ref (He.ga K "BadLot")) = some true), decide (PySem.W.exmOne K (.ref (He.ga K "BadLot")) (.ref (He.ga K "BadWorld")) = some false), decide (PySem.W.exmOne K (.ref (He.ga K "BadLot")) (.ref (He.ga K "NotInside")) = some false), decide (PySem.W.exmOne K (.ref (He.ga K "BadLot")) (.ref (He.ga K "NotTwoway")) = some false), decide (PySem.W.exmOne K (.ref (He.ga K "BadLot")) (.ref (He.ga K "TooMany")) = some false), decide (PySem.W.exmOne K (.ref (He.ga K "NotInside")) (.ref (He.ga K "BadLot")) = some false), decide (PySem.W.exmOne K (.ref (He.ga K "NotInside")) (.ref (He.ga K "BadWorld")) = some false), decide (PySem.W.exmOne K (.ref (He.ga K "NotInside")) (.ref (He.ga K "NotInside")) = some true), decide (PySem.W.exmOne K (.ref (He.ga K "NotInside")) (.ref (He.ga K "NotTwoway")) = some false), decide (PySem.W.exmOne K (.ref (He.ga K "NotInside")) (.ref (He.ga K "TooMany")) = some false)]
def ex8 (K : PySem.W.Frag) : List Bool := [decide (PySem.W.exmOne K (.ref (He.ga K "TooMany")) (.ref (He.ga K "BadLot")) = some false), decide (PySem.W.exmOne K (.ref (He.ga K "TooMany")) (.ref (He.ga K "BadWorld")) = some false), decide (PySem.W.exmOne K (.ref (He.ga K "TooMany")) (.ref (He.ga K "NotInside")) = some false), decide (PySem.W.exmOne K (.ref (He.ga K "TooMany")) (.ref (He.ga K "NotTwoway")) = some false), decide (PySem.W.exmOne K (.ref (He.ga K "TooMany")) (.ref (He.ga K "TooMany")) = some true), decide (PySem.W.exmOne K (.ref (He.ga K "NotTwoway")) (.ref (He.ga K "BadLot")) = some false), decide (PySem.W.exmOne K (.ref (He.ga K "NotTwoway")) (.ref (He.ga K "BadWorld")) = some false), decide (PySem.W.exmOne K (.ref (He.ga K "NotTwoway")) (.ref (He.ga K "NotInside")) = some false), decide (PySem.W.exmOne K (.ref (He.ga K "NotTwoway")) (.ref (He.ga K "NotTwoway")) = some true), decide (PySem.W.exmOne K (.ref (He.ga K "NotTwoway")) (.ref (He.ga K "TooMany")) = some false)]
def ex9 (K : PySem.W.Frag) : List Bool := [excB K (He.ga K "BadLot"), excB K (He.ga K "BadWorld"), excB K (He.ga K "NotTwoway"), decide (PySem.W.kitOne K (.ref (He.ga K "BadLot")) (.ref (He.ga K "GatesError")) = some true), decide (PySem.W.kitAny K (.ref (He.ga K "BadLot")) [.ref (He.ga K "BadNet"), .ref (He.ga K "BadNumber"), .ref (He.ga K "BadPlace"), .ref (He.ga K "BadTie")] = some false), decide (PySem.W.kitOne K (.ref (He.ga K "BadWorld")) (.type "ValueError") = some true), decide (PySem.W.kitAny K (.ref (He.ga K "BadWorld")) [.ref (He.ga K "BadLot"), .ref (He.ga K "BadNet")] = some false), decide (PySem.W.kitOne K (.ref (He.ga K "NotTwoway")) (.ref (He.ga K "GatesError")) = some true), decide (PySem.W.kitOne K (.ref (He.ga K "NotTwoway")) (.ref (He.ga K "OtherKind")) = some false)]
def ex10 (K : PySem.W.Frag) : List Bool := [decide (PySem.W.subIn K (.ref (He.ga K "BadLot")) (.type "StopIteration") = some false), decide (PySem.W.subIn K (.ref (He.ga K "NotInside")) (.type "StopIteration") = some false), decide (PySem.W.subIn K (.ref (He.ga K "TooMany")) (.type "StopIteration") = some false)]
def ex11 (K : PySem.W.Frag) : List Bool := [PySem.W.codeHdIn K (codeAd K "by_size") PT, (K.lookup PT).isNone, codeRefB K "by_size"]
def fa0_0 : List He.Fa := [.glo "is_integer", .glo "is_row", .glo "first_wrong", .glo "both", .glo "common", .glo "minus", .glo "rest", .glo "by_size", .glo "amount", .glo "_law_draws", .glo "_law_take", .glo "_law_int", .glo "_law_rest", .glo "_law_amount_between", .glo "is_index", .glo "wrong_member", .glo "lots_inside", .glo "_law_lot_ok", .glo "_law_told_net", .glo "_law_free_ties"]
def fa0_1 : List He.Fa := [.glo "_law_kind", .glo "_law_world", .glo "_law_lot", .glo "_law_handed", .glo "_law_bad_lot", .glo "_law_bad_world", .glo "is_pair"]
def fa0_ : List He.Fa := fa0_0 ++ (fa0_1)
def fn0_0 : List He.DefD := [d_is_integer, d_is_row, d_first_wrong, d_both, d_common, d_minus, d_rest, d_by_size, d_amount, d_law_draws, d_law_take, d_law_int, d_law_rest, d_law_amount_between, d_is_index, d_wrong_member, d_lots_inside, d_law_lot_ok]
def fn0_ : List He.DefD := fn0_0
def xp0 (K : PySem.W.Frag) : List Bool := ex0 K ++ (ex1 K ++ (ex2 K))
def prt0 : Prt := ⟨fa0_, fn0_, fo, xp0⟩
def fa1_0 : List He.Fa := [.glo "good_size", .glo "good_lot", .glo "good_world", .glo "need_apart", .glo "need_inside", .glo "need_listed", .glo "check_twoway", .glo "_law_net", .glo "lot_of", .glo "lots_between", .glo "corners", .glo "good_ends", .glo "world_of", .glo "_law_any_net", .glo "_law_twoway_told", .glo "crosses", .glo "cost", .glo "costs_less", .glo "_law_four", .glo "_law_corners_right"]
def fa1_1 : List He.Fa := [.glo "spared", .glo "spared_apart", .glo "_law_built", .glo "_law_lot_door", .glo "_law_world_told", .glo "_law_apart_told", .glo "_law_listed_told"]
def fa1_ : List He.Fa := fa1_0 ++ (fa1_1)
def fn1_0 : List He.DefD := [d_law_told_net, d_law_free_ties, d_law_kind, d_law_world, d_law_lot, d_law_handed, d_law_bad_lot, d_law_bad_world, d_is_pair, d_good_size, d_good_lot, d_good_world, d_need_apart, d_need_inside, d_need_listed, d_check_twoway, d_law_net, d_lot_of]
def fn1_ : List He.DefD := fn1_0
def xp1 (K : PySem.W.Frag) : List Bool := ex3 K ++ (ex4 K ++ (ex5 K))
def prt1 : Prt := ⟨fa1_, fn1_, [], xp1⟩
def fa2_0 : List He.Fa := [.glo "_law_listed_right", .glo "_law_apart_right", .glo "_law_refused", .glo "law", .glo "Oneway", .glo "Twoway", .glo "BadWorld", .glo "BadLot", .glo "NotInside", .glo "TooMany", .glo "NotTwoway", .glo "GatesError", .glo "OtherKind", .glo "BadNet", .glo "BadNumber", .glo "BadPlace", .glo "BadTie", .free "len", .free "range", .free "min"]
def fa2_1 : List He.Fa := [.free "max", .free "int", .free "list", .free "tuple", .free "sum", .free "all", .free "any"]
def fa2_ : List He.Fa := fa2_0 ++ (fa2_1)
def fn2_0 : List He.DefD := [d_lots_between, d_corners, d_good_ends, d_world_of, d_law_any_net, d_law_twoway_told, d_crosses, d_cost, d_costs_less, d_law_four, d_law_corners_right, d_spared, d_spared_apart, d_law_built, d_law_lot_door, d_law_world_told, d_law_apart_told, d_law_listed_told]
def fn2_ : List He.DefD := fn2_0
def xp2 (K : PySem.W.Frag) : List Bool := ex6 K ++ (ex7 K ++ (ex8 K))
def prt2 : Prt := ⟨fa2_, fn2_, [], xp2⟩
def fa3_0 : List He.Fa := [.free "sorted", .free "isinstance", .free "enumerate", .free "repr", .free "str", .free "set", .free "bool", .free "ValueError", .int "MOST_PLACES" 12, .int "MOST_TIES" 40, .int "MOST_LISTED" 8, .exc "NotTwoway", .cls "Oneway", .noat "Oneway" "size", .noat "Oneway" "ties", .mkr "Oneway", .cls "Twoway", .noat "Twoway" "size", .noat "Twoway" "ties", .mkr "Twoway"]
def fa3_1 : List He.Fa := [.meth "Oneway" "gates", .meth "Twoway" "gates", .meth "Oneway" "inner", .meth "Twoway" "inner", .meth "Oneway" "between", .meth "Twoway" "between"]
def fa3_ : List He.Fa := fa3_0 ++ (fa3_1)
def fn3_0 : List He.DefD := [d_law_listed_right, d_law_apart_right, d_law_refused, d_law, d_Oneway_gates, d_Twoway_gates, d_Oneway_inner, d_Twoway_inner, d_Oneway_between, d_Twoway_between, d_Oneway_init, d_Twoway_init, d_err_BadWorld, d_err_BadLot, d_err_NotInside, d_err_TooMany]
def fn3_ : List He.DefD := fn3_0
def xp3 (K : PySem.W.Frag) : List Bool := ex9 K ++ (ex10 K ++ (ex11 K))
def prt3 : Prt := ⟨fa3_, fn3_, [], xp3⟩
abbrev prts : List Prt := [prt0, prt1, prt2, prt3]
abbrev Says (K : PySem.W.Frag) : Prop := ∀ p ∈ prts, SaysP p K
section
variable {K : PySem.W.Frag}
theorem Q0 (c : Says K) : SaysP prt0 K := c _ (by simp)
theorem Q1 (c : Says K) : SaysP prt1 K := c _ (by simp)
theorem Q2 (c : Says K) : SaysP prt2 K := c _ (by simp)
theorem Q3 (c : Says K) : SaysP prt3 K := c _ (by simp)
end
def AS : List Addr := [3, 6, 4, 21, 31, 51, 70, 89, 108, 127, 146, 158, 170, 189, 208, 227, 236, 243, 250, 255, 262, 269, 276, 283, 288, 295, 302, 310, 317, 324, 329, 334, 339, 346, 351, 358, 365, 370, 455, 469, 486, 493, 500, 507, 514, 519, 526, 533, 540, 545, 552, 559, 566, 573, 580, 587, 592, 599, 606, 611, 616, 621, 628, 635, 642, 649, 656, 663, 670, 677, 684, 691, 698, 703, 708, 713, 720, 725, 0, 20, 30, 50, 69, 88, 107, 126, 145, 157, 169, 188, 207, 226, 235, 242, 249, 254, 261, 268, 275, 282, 287, 294, 301, 309, 303, 316, 323, 328, 333, 338, 345, 350, 357, 364, 369, 454, 468, 485, 492, 499, 506, 513, 518, 525, 532, 539, 544, 551, 558, 565, 572, 579, 586, 591, 598, 605, 610, 615, 620, 627, 634, 641, 648, 655, 662, 669, 676, 683, 690, 697, 702, 707, 712, 719, 724, 15, 16, 17, 18, 19, 29, 32, 48, 49, 67, 68, 86, 87, 105, 106, 124, 125, 143, 144, 156, 168, 186, 187, 205, 206, 224, 225, 230, 231, 232, 233, 234, 237, 238, 239, 240, 241, 244, 245, 246, 247, 248, 251, 252, 253, 256, 257, 258, 259, 260, 263, 264, 265, 266, 267, 270, 271, 272, 273, 274, 277, 278, 279, 280, 281, 284, 285, 286, 289, 290, 291, 292, 293, 296, 297, 298, 299, 300, 304, 305, 306, 307, 308, 311, 312, 313, 314, 315, 318, 319, 320, 321, 322, 325, 326, 327, 330, 331, 332, 335, 336, 337, 340, 342, 343, 344, 347, 348, 349, 352, 353, 354, 355, 356, 359, 360, 361, 362, 363, 366, 367, 368, 384, 392, 397, 402, 407, 414, 421, 428, 435, 442, 447, 452, 453, 456, 457, 467, 483, 484, 489, 490, 491, 494, 495, 496, 497, 498, 501, 502, 503, 504, 505, 508, 509, 510, 511, 512, 515, 516, 517, 520, 521, 522, 523, 524, 527, 528, 529, 530, 531, 534, 535, 536, 537, 538, 541, 542, 543, 546, 547, 548, 549, 550, 553, 554, 555, 556, 557, 560, 561, 562, 563, 564, 567, 568, 569, 570, 571, 574, 575, 576, 577, 578, 581, 582, 583, 584, 585, 588, 589, 590, 593, 594, 595, 596, 597, 600, 601, 602, 603, 604, 607, 608, 609, 612, 613, 614, 617, 618, 619, 622, 623, 624, 625, 626, 629, 630, 631, 632, 633, 636, 637, 638, 639, 640, 643, 644, 645, 646, 647, 650, 651, 652, 653, 654, 657, 658, 659, 660, 661, 664, 665, 666, 667, 668, 671, 672, 673, 674, 675, 678, 679, 680, 681, 682, 685, 686, 687, 688, 689, 692, 693, 694, 695, 696, 699, 700, 701, 704, 705, 706, 709, 710, 711, 714, 715, 716, 717, 718, 721, 722, 723, 47, 66, 85, 104, 123, 142, 185, 204, 223, 383, 391, 396, 401, 406, 413, 420, 427, 434, 441, 446, 451, 482, 42, 43, 44, 45, 46, 61, 62, 63, 64, 65, 80, 81, 82, 83, 84, 99, 100, 101, 102, 103, 118, 119, 120, 121, 122, 137, 138, 139, 140, 141, 180, 181, 182, 183, 184, 199, 200, 201, 202, 203, 218, 219, 220, 221, 222, 378, 379, 380, 381, 382, 390, 393, 394, 395, 398, 399, 400, 403, 404, 405, 408, 409, 410, 411, 412, 415, 416, 417, 418, 419, 422, 423, 424, 425, 426, 429, 430, 431, 432, 433, 436, 437, 438, 439, 440, 443, 444, 445, 448, 449, 450, 479, 480, 481, 385, 386, 387, 388, 389]
end K02
namespace PL
variable [DL.Tb]
open PySem PySem.Spec PyProof.Rows L2 Evl DL
def isIntD : PyData → Bool
  | .int _ => true
  | _ => false
def isRowD (d : PyData) : Bool := isTy "list" d || isTy "tuple" d
theorem isInt_eq {d : PyData} (h : plainB d = true) : (isTy "int" d && !isTy "bool" d) = isIntD d := by cases d <;> first | rfl | cases h
theorem rowPl {ds : List PyData} {d : PyData} (h : RowV ds d) : plainB d = true := by rcases h with rfl | rfl <;> rfl
theorem rowRow {ds : List PyData} {d : PyData} (h : RowV ds d) : isRowD d = true := by rcases h with rfl | rfl <;> rfl
def ixD (d : PyData) (n : Int) : Bool := match d with
  | .int i => decide (0 ≤ i) && decide (i < n)
  | _ => false
def fwD (bs : List Bool) : PyData := match bs.findIdx? (!·) with
  | some i => .int (i : Nat)
  | none => .none
theorem eP_inj (x y : Int × Int) (e : eP x = eP y) : x = y := by
  obtain ⟨a, b⟩ := x
  obtain ⟨c, d⟩ := y
  have e : PyData.tuple [.int a, .int b] = .tuple [.int c, .int d] := e
  injection e with e
  injection e with e1 e
  injection e with e2 e
  injection e1 with e1
  injection e2 with e2
  rw [e1, e2]
theorem enum_at {ds : List PyData} {i : Nat} {d : PyData} (h : (enumD ds)[i]? = some d) : ∃ x, ds[i]? = some x ∧ d = .tuple [.int (i : Nat), x] := by
  have hi := (List.getElem?_eq_some_iff.mp h).1
  rw [enumD_len] at hi
  refine ⟨ds[i], List.getElem?_eq_getElem hi, ?_⟩
  rw [enumD_get (List.getElem?_eq_getElem hi)] at h
  exact (Option.some.inj h).symm
def LotIn (n : Int) (l : List Int) : Prop := l.Nodup ∧ ∀ p ∈ l, 0 ≤ p ∧ p < n
theorem InR.one {n : Int} {p : Int × Int} (h : 0 ≤ p.1 ∧ p.1 < n ∧ 0 ≤ p.2 ∧ p.2 < n) : InR n [p] := fun q e => by rw [List.mem_singleton.mp e]; exact h
section
variable {K : PySem.W.Frag} {a : Ad} {B : Base} {δ : En} {te ta tb tc : TE} {E : XK} {P : Pd} {R : XR}
theorem ed_chain {f g : Int → Int → Bool} {i j k : Int} (ha : ED K B ta δ (· = .int i)) (hb : ED K B tb δ (· = .int j)) (hc : ED K B tc δ (· = .int k)) : ED K B (tChain (rI0 fun i j => .bl (f i j)) (rI0 fun i j => .bl (g i j)) ta tb tc) δ (· = .bool (f i j && g j k)) := fun G H σ Ev Q q =>
  ha G H σ Ev _ fun x d G1 H1 e m1 r1 => hb G1 H1 σ (Ev.at m1) _ fun y d2 G2 H2 e2 m2 r2 => by
    subst e; subst e2
    rw [r1.i, r2.i]
    refine ⟨i, j, rfl, rfl, f i j, rfl, ?_⟩
    have mm := m1.trans m2 Ev.iv
    cases hf : f i j with
    | true =>
      refine hc G2 H2 σ (Ev.at mm) _ fun z d3 G3 H3 e3 m3 r3 => ?_
      subst e3
      rw [r3.i]
      exact ⟨j, k, rfl, rfl, q _ _ G3 H3 rfl (mm.trans m3 Ev.iv) (by rw [hf]; exact .bl _)⟩
    | false => exact q _ _ G2 H2 rfl mm (by rw [hf]; exact .bl _)
theorem w_is_integer {d : PyData} (hd : plainB d = true) (p : P (.bool (isIntD d))) : W_is_integer K a [d] P R := fun B E hE =>
  sd_retd (d := .bool (isIntD d)) ((ed_andV (ed_isi (.inl rfl) hd (ed_var rfl)) fun _ => ed_notV (ed_isi (.inr (.inl rfl)) hd (ed_var rfl))).is (by rw [isInt_eq hd])) p
theorem w_law_int {d : PyData} (hd : plainB d = true) (p : P (.bool (isIntD d))) : W_law_int K a [d] P := fun B =>
  sd_retd (d := .bool (isIntD d)) ((ed_andV (ed_isi (.inl rfl) hd (ed_var rfl)) fun _ => ed_notV (ed_isi (.inr (.inl rfl)) hd (ed_var rfl))).is (by rw [isInt_eq hd])) p
theorem w_is_row {d : PyData} (hd : plainB d = true) (p : P (.bool (isRowD d))) : W_is_row K a [d] P R := fun B E hE =>
  sd_retd (d := .bool (isRowD d)) (ed_isi2 (.inr (.inr (.inr (.inl rfl)))) (.inr (.inr (.inr (.inr rfl)))) hd (ed_var rfl)) p
theorem ed_isInt {d : PyData} (hd : plainB d = true) (h : ED K B te δ (· = d)) : ED K B (tCall (SpWX K 1 (W_is_integer K a)) [] E (tCons te tNil)) δ (· = .bool (isIntD d)) := ed_cX0 (ea_cons h ea_nil) (w_is_integer hd rfl)
theorem ed_isRow {d : PyData} (hd : plainB d = true) (h : ED K B te δ (· = d)) : ED K B (tCall (SpWX K 1 (W_is_row K a)) [] E (tCons te tNil)) δ (· = .bool (isRowD d)) := ed_cX0 (ea_cons h ea_nil) (w_is_row hd rfl)
theorem w_is_index {d : PyData} {n : Int} (hd : plainB d = true) (p : P (.bool (ixD d n))) : W_is_index K a [d, .int n] P R := fun B E hE => by
  cases hi : isIntD d with
  | true =>
    cases d with
    | int i => exact sd_retd (d := .bool (ixD (.int i) n)) ((ed_andV (ed_isInt (d := .int i) rfl (ed_var rfl)) fun _ => ed_chain ed_int (ed_var rfl) (ed_var rfl)).is rfl) p
    | _ => cases hi
  | false =>
    have e : ixD d n = false := by cases d <;> first | rfl | cases hi
    refine sd_retd (d := .bool (ixD d n)) ((ed_andV (a := false) (b := false) ((ed_isInt hd (ed_var rfl)).is (by rw [hi])) fun h => by cases h).is (by rw [e]; rfl)) p
theorem ed_isIx {d : PyData} {n : Int} (hd : plainB d = true) (h : ED K B ta δ (· = d)) (k : ED K B tb δ (· = .int n)) : ED K B (tCall (SpWX K 2 (W_is_index K a)) [] E (tCons ta (tCons tb tNil))) δ (· = .bool (ixD d n)) := ed_cX0 (ea_cons h (ea_cons k ea_nil)) (w_is_index hd rfl)
theorem w_good_size {n : Int} (n1 : 1 ≤ n) (n2 : n ≤ 12) (p : P (.int n)) : W_good_size K a [.int n] P R := fun B E hE =>
  sd_cons (sd_ifd (x := false) ((et_or (b := false) (et_not (et_B (ed_isInt (d := .int n) rfl (ed_var rfl)))) fun _ => (et_not (et_test (ed_chain ed_int (ed_var rfl) ed_int))).is (by rw [decide_eq_true n1, decide_eq_true n2]; rfl)).is rfl) (fun h => by cases h) (fun _ => sd_next (sd_retd (ed_var rfl) p)))
theorem w_first_wrong {bs : List Bool} (p : P (fwD bs)) : W_first_wrong K a [.list (bs.map PyData.bool)] P R := fun B E hE => by
  refine sd_mid (fun _ => ∀ x ∈ bs, x = true) (sd_ford (fun i δ' => (∃ s t : Sl, δ' = [.sh (.list (bs.map PyData.bool)), s, t]) ∧ ∀ j (h : j < bs.length), j < i → bs[j] = true) (wd_enum (ea_cons (ed_var rfl) ea_nil)) ⟨⟨_, _, rfl⟩, fun j _ h => by omega⟩ ?_ ?_) ?_
  · rintro i d _ hi ⟨⟨s, t, rfl⟩, h0⟩
    obtain ⟨x, hx, rfl⟩ := enum_at hi
    rw [List.getElem?_map] at hx
    cases hb : bs[i]? with
    | none => rw [hb] at hx; cases hx
    | some y =>
      rw [hb] at hx
      cases hx
      obtain ⟨hi', e⟩ := List.getElem?_eq_some_iff.mp hb
      refine ⟨_, _, gd_2, sd_ifd (et_not (et_B (ed_var rfl))) (fun c => ?_) (fun c => sd_next ?_)⟩
      · refine sd_retd (ed_var rfl) ?_
        have q : bs.findIdx? (!·) = some i := by
          rw [List.findIdx?_eq_some_iff_getElem]
          exact ⟨hi', by rw [e]; exact c, fun j hj => by rw [h0 j (by omega) hj]; decide⟩
        unfold fwD at p
        rw [q] at p
        exact p
      · refine ⟨⟨_, _, rfl⟩, fun j hj hji => ?_⟩
        by_cases ej : j = i
        · subst ej
          rw [e]
          cases y
          · cases c
          · rfl
        · exact h0 j hj (by omega)
  · rintro _ ⟨_, h0⟩ x hx
    obtain ⟨j, hj, rfl⟩ := List.getElem_of_mem hx
    rw [enumD_len, List.length_map] at h0
    exact h0 j hj hj
  · intro δ' h0
    refine sd_retd ed_non ?_
    have q : bs.findIdx? (!·) = none := by
      rw [List.findIdx?_eq_none_iff]
      intro x hx
      rw [h0 x hx]; rfl
    unfold fwD at p
    rw [q] at p
    exact p
def BadM (n : Int) (l : List Int) (d : PyData) : Prop := plainB d = true ∧ (isIntD d = true → ∃ p : Int, d = .int p ∧ (p < 0 ∨ p ∈ l ∨ n ≤ p))
theorem sd_wm {n : Int} {l : List Int} {tl : List PyData} {d : PyData} (hl : LotIn n l) (hd : RowV (l.map PyData.int ++ tl) d) (h1 : tl = [] → P .none) (h2 : ∀ x xs, tl = x :: xs → BadM n l x ∧ P (.int (l.length : Int))) : W_wrong_member K a [.int n, d] P R := fun B E hE => by
  obtain ⟨nd, hl⟩ := hl
  refine sd_cons (sd_ifd (x := false) ((et_not (et_B (ed_isRow (rowPl hd) (ed_var rfl)))).is (by rw [rowRow hd]; rfl)) (fun h => by cases h) (fun _ => sd_next ?_))
  refine sd_mid (fun δ' => tl = [] ∧ ∃ s t : Sl, δ' = [.sh (.int n), .sh d, s, t]) (sd_ford (fun i δ' => (i ≤ l.length) ∧ ∃ s t : Sl, δ' = [.sh (.int n), .sh d, s, t]) (wd_enumS ((ea_consP (ed_row (i := 1) rfl hd) ea_nil).imp fun es ⟨x, xs, h, e, q⟩ => ⟨x, h, by rw [q, e]⟩)) ⟨Nat.zero_le _, _, _, rfl⟩ ?_ ?_) ?_
  · rintro i e _ hi ⟨hil, s, t, rfl⟩
    obtain ⟨x, hx, rfl⟩ := enum_at hi
    have tk : (l.map PyData.int ++ tl).take i = (l.take i).map PyData.int := by rw [List.take_append_of_le_length (by rw [List.length_map]; exact hil), List.map_take]
    have sl : ∀ {δ : En}, δ[1]? = some (.sh d) → δ[2]? = some (.sh (.int (i : Int))) → ED K B (tSl (rSlS K) (tVar 1) tNoPart (tPart (tVar 2))) δ (RowV ((l.take i).map PyData.int)) := fun g1 g2 => by
      have z := ed_slS (K := K) (B := B) (k := i) (ed_row (i := 1) g1 hd) (ed_var g2) (by rw [List.length_append, List.length_map]; omega)
      rw [tk] at z
      exact z
    by_cases hlt : i < l.length
    · have hx2 : (l.map PyData.int)[i]? = some x := by rw [List.getElem?_append_left (by rw [List.length_map]; exact hlt)] at hx; exact hx
      rw [List.getElem?_map, List.getElem?_eq_getElem hlt] at hx2
      cases hx2
      obtain ⟨p0, p1⟩ := hl l[i] (List.getElem_mem hlt)
      have np : ¬ l[i] ∈ l.take i := fun h => by
        obtain ⟨j, hj, ej⟩ := List.getElem_of_mem h
        rw [List.length_take] at hj
        rw [List.getElem_take] at ej
        have := (List.getElem_inj nd).mp ej
        omega
      refine ⟨_, _, gd_2, sd_cons (sd_ifd (x := false) ((et_or (a := false) (et_not (et_B (ed_isInt (d := .int l[i]) rfl (ed_var rfl)))) fun _ => et_or (et_test (ed_opb (ed_var rfl) ed_int)) fun _ => et_test (ed_inS (ed_var rfl) (sl rfl rfl))).is ?_) (fun h => by cases h) (fun _ => sd_next ?_))⟩
      · rw [decide_eq_false (show ¬ l[i] < 0 by omega)]
        show (false || (false || decide (l[i] ∈ l.take i))) = false
        rw [decide_eq_false np]
        rfl
      · exact sd_ifd (x := false) ((et_and (et_test (ed_opd (ed_var rfl) ed_non rd_notN)) fun _ => et_test (ed_opb (ed_var rfl) (ed_var rfl))).is (by rw [decide_eq_false (show ¬ n ≤ l[i] by omega)]; rfl)) (fun h => by cases h) (fun _ => sd_next ⟨hlt, _, _, rfl⟩)
    · have e : i = l.length := by omega
      subst e
      cases tl with
      | nil => rw [List.append_nil, List.getElem?_eq_none (by rw [List.length_map]; exact Nat.le_refl _)] at hx; cases hx
      | cons y ys =>
        rw [List.getElem?_append_right (by rw [List.length_map]; exact Nat.le_refl _), List.length_map, Nat.sub_self] at hx
        have ey : y = x := Option.some.inj hx
        subst ey
        obtain ⟨⟨pl, bad⟩, pr⟩ := h2 y ys rfl
        rw [List.take_length] at sl
        refine ⟨_, _, gd_2, ?_⟩
        cases hI : isIntD y with
        | false => exact sd_cons (sd_ifd (x := true) ((et_or (a := true) (b := false) ((et_not (et_B (ed_isInt pl (ed_var rfl)))).is (by rw [hI]; rfl)) fun h => by cases h).is rfl) (fun _ => sd_retd (ed_var rfl) pr) (fun h => by cases h))
        | true =>
          obtain ⟨p, rfl, hp⟩ := bad hI
          refine sd_cons (sd_ifd (et_or (et_not (et_B (ed_isInt (d := .int p) rfl (ed_var rfl)))) fun _ => et_or (et_test (ed_opb (ed_var rfl) ed_int)) fun _ => et_test (ed_inS (ed_var rfl) (sl rfl rfl))) (fun _ => sd_retd (ed_var rfl) pr) (fun c => sd_next ?_))
          refine sd_ifd (x := true) ((et_and (et_test (ed_opd (ed_var rfl) ed_non rd_notN)) fun _ => et_test (ed_opb (ed_var rfl) (ed_var rfl))).is ?_) (fun _ => sd_retd (ed_var rfl) pr) (fun h => by cases h)
          have c : (!isIntD (.int p) || (decide (p < 0) || decide (p ∈ l))) = false := c
          simp [isIntD] at c
          have hn : n ≤ p := by
            rcases hp with h | h | h
            · omega
            · exact absurd h c.2
            · exact h
          rw [decide_eq_true hn]
          rfl
  · rintro _ ⟨hil, s, t, rfl⟩
    rw [enumD_len, List.length_append, List.length_map] at hil
    exact ⟨List.eq_nil_of_length_eq_zero (by omega), s, t, rfl⟩
  · rintro _ ⟨e, s, t, rfl⟩
    exact sd_retd ed_non (h1 e)
theorem w_good_lot {n : Int} {l : List Int} {d : PyData} (hl : LotIn n l) (hz : l.length < 64) (hd : RowV (l.map PyData.int) d) (p : ∀ ms : List Int, ms.Perm l → ms.Pairwise (· ≤ ·) → P (eU ms)) : W_good_lot K a [.int n, d] P R := fun B E hE => by
  refine sd_cons (sd_asgd (d := .none) (ed_cX0 (ea_cons (ed_var rfl) (ea_cons (ed_var rfl) ea_nil)) (sd_wm (tl := []) hl (by rw [List.append_nil]; exact hd) (fun _ => rfl) (fun _ _ h => by cases h))) ?_)
  refine sd_cons (sd_ifd (x := false) (et_test (ed_opd (ed_var rfl) ed_non rd_notN)) (fun h => by cases h) (fun _ => sd_next ?_))
  refine sd_ret (Pd := fun d => ∃ ms : List Int, d = eU ms ∧ ms.Perm l ∧ ms.Pairwise (· ≤ ·)) (ed_cbP (ea_consP (EL.ed (el_cbP (Pa := fun es => ∃ x, RowV (l.map PyData.int) x ∧ es = [x]) ((ea_consP (ed_row (i := 1) rfl hd) ea_nil).imp fun es ⟨x, xs, h, e, q⟩ => ⟨x, h, by rw [q, e]⟩) (fun es ⟨x, h, e⟩ => by rw [e]; exact cl_sortedQ h hz))) ea_nil) ?_) ?_
  · rintro _ ⟨_, _, ⟨_, ⟨ms, rfl, h1, h2⟩, rfl⟩, rfl, rfl⟩
    exact fun B G H vs I r Q k => cd_tupL B G H vs I r Q fun z d G' H' e => k z d G' H' ⟨ms, e, h1, h2⟩
  · rintro _ ⟨ms, rfl, h1, h2⟩
    exact p ms h1 h2
theorem len_row {i : Nat} {ds : List PyData} {d : PyData} (h : δ[i]? = some (.sh d)) (hd : RowV ds d) : ED K B (tCB (rLenQ K) (tCons (tVar i) tNil)) δ (· = .int (ds.length : Int)) := ed_lenS (ed_row h hd)
theorem fw_ok {us : List Int} (hu : ∀ u ∈ us, 0 ≤ u) : fwD (us.map fun u => decide (0 ≤ u)) = .none := by
  unfold fwD
  have q : (us.map fun u => decide (0 ≤ u)).findIdx? (!·) = none := by
    rw [List.findIdx?_eq_none_iff]
    intro x hx
    obtain ⟨u, h1, rfl⟩ := List.mem_map.mp hx
    rw [decide_eq_true (hu u h1)]; rfl
  rw [q]
theorem w_good_world {m : Int} {us : List Int} {d : PyData} (hm : m = (us.length : Int)) (hu : ∀ u ∈ us, 0 ≤ u) (hz : us.length ≤ 1000) (hd : RowV (us.map PyData.int) d) (p : P (eU us)) : W_good_world K a [.int m, d] P R := fun B E hE => by
  refine sd_cons (sd_ifd (x := false) ((et_or (a := false) (b := false) ((et_not (et_B (ed_isRow (rowPl hd) (ed_var rfl)))).is (by rw [rowRow hd]; rfl)) fun _ => (et_and (et_test (ed_opd (ed_var rfl) ed_non rd_notN)) fun _ => et_test (ed_opd (len_row rfl hd) (ed_var rfl) (rd_ne rfl))).is (by rw [List.length_map, hm]; simp [eqS, isN])).is rfl) (fun h => by cases h) (fun _ => sd_next ?_))
  refine sd_cons (sd_asgd (d := .none) (ed_cX0 (ds := [.list ((us.map fun u => decide (0 ≤ u)).map PyData.bool)]) (ea_cons (EL.edd ((el_mapx us PyData.int int_inj (fun u => .bool (decide (0 ≤ u))) (wd_seq (ds := us.map PyData.int) (ed_row (i := 1) rfl hd)) (fun u h => ⟨_, _, gd_name, fun _ h => h, ED.is (ed_andV (ed_isInt (d := .int u) rfl (ed_var rfl)) fun _ => ed_opb (f := fun i j => decide (j ≤ i)) (ed_var rfl) ed_int) rfl⟩) (by omega)).imp fun es e => by rw [e, List.map_map]; rfl)) ea_nil) (w_first_wrong (fw_ok hu))) ?_)
  refine sd_cons (sd_ifd (x := false) (et_test (ed_opd (ed_var rfl) ed_non rd_notN)) (fun h => by cases h) (fun _ => sd_next ?_))
  exact sd_retd (ed_tupS (ed_row (i := 1) rfl hd)) p
theorem x_good_world {m : Int} {ds : List PyData} {d : PyData} (er : a.er "BadWorld" = true) (hm : m ≠ (ds.length : Int)) (hd : RowV ds d) (r : R (a.ec "BadWorld") [("at", .int (-1))]) : W_good_world K a [.int m, d] P R := fun B E hE => by
  refine sd_cons (sd_ifd (x := true) ((et_or (a := false) (b := true) ((et_not (et_B (ed_isRow (rowPl hd) (ed_var rfl)))).is (by rw [rowRow hd]; rfl)) fun _ => (et_and (et_test (ed_opd (ed_var rfl) ed_non rd_notN)) fun _ => et_test (ed_opd (len_row rfl hd) (ed_var rfl) (rd_ne rfl))).is (by simp [eqS, isN]; exact fun h => hm h.symm)).is rfl) (fun _ => ?_) (fun h => by cases h))
  rw [er]
  exact sd_rz (ed_neg ed_int) (.i _) hE r
theorem w_need_inside {l m : List Int} (h : ∀ p ∈ l, p ∈ m) (p : P .none) : W_need_inside K a [eU l, eU m] P R := fun B E hE => by
  refine sd_ford (fun i δ' => ∃ s : Sl, δ' = [.sh (eU l), .sh (eU m), s]) (wd_tup (ds := l.map PyData.int) (ed_var rfl)) ⟨_, rfl⟩ ?_ (fun _ _ => p)
  rintro i d _ hi ⟨s, rfl⟩
  obtain ⟨q, hq, rfl⟩ := List.mem_map.mp (List.mem_of_getElem? hi)
  exact ⟨_, _, gd_name, sd_ifd (x := false) ((et_test (ed_opd (ed_var rfl) (ed_var rfl) rd_inT)).is (by simp [h q hq])) (fun h => by cases h) (fun _ => sd_next ⟨_, rfl⟩)⟩
theorem x_need_inside {q : Int} {m : List Int} (er : a.er "NotInside" = true) (h : q ∉ m) (r : R (a.ec "NotInside") [("place", .int q)]) : W_need_inside K a [eU [q], eU m] P R := fun B E hE => by
  refine sd_ford (fun i δ' => i = 0 ∧ ∃ s : Sl, δ' = [.sh (eU [q]), .sh (eU m), s]) (wd_tup (ds := [.int q]) (ed_var rfl)) ⟨rfl, _, rfl⟩ ?_ ?_
  · rintro i d _ hi ⟨rfl, s, rfl⟩
    cases hi
    exact ⟨_, _, gd_name, sd_ifd (x := true) ((et_test (ed_opd (ed_var rfl) (ed_var rfl) rd_inT)).is (by simp [h])) (fun _ => by rw [er]; exact sd_rz (ed_var rfl) (.i _) hE r) (fun h => by cases h)⟩
  · rintro _ ⟨h, _⟩
    cases h
end
end PL
namespace PL
variable [DL.Tb]
open PySem PySem.Spec PyProof.Rows L2 Evl DL
theorem nd_net : nmNet.Nodup := by decide +kernel
theorem nog_net : ("gates" : Str) ∉ nmNet := by decide +kernel
theorem noi_net : ("inner" : Str) ∉ nmNet := by decide +kernel
theorem nok_net : ("KIND" : Str) ∉ nmNet := by decide +kernel
structure NetTxt (K : PySem.W.Frag) (C : Addr) : Prop where
  cl : Cls K C
  nS : NoAttr K C "size"
  nT : NoAttr K C "ties"
def kn (two : Bool) : Str := if two = true then "twoway" else "oneway"
structure Nk (K : PySem.W.Frag) (a : Ad) : Prop where
  o : NetTxt K a.Oneway
  t : NetTxt K a.Twoway
  ko : ∃ u, Con K a.Oneway "KIND" (.str "oneway") u
  kt : ∃ u, Con K a.Twoway "KIND" (.str "twoway") u
def cC (a : Ad) (two : Bool) : Addr := if two = true then a.Twoway else a.Oneway
theorem Nk.n {K : PySem.W.Frag} {a : Ad} (T : Nk K a) (two : Bool) : NetTxt K (cC a two) := by cases two; exact T.o; exact T.t
theorem Nk.k {K : PySem.W.Frag} {a : Ad} (T : Nk K a) (two : Bool) : ∃ u, Con K (cC a two) "KIND" (.str (kn two)) u := by cases two; exact T.ko; exact T.kt
theorem r_many (K : PySem.W.Frag) (a : Ad) (two : Bool) : R_many K a (cC a two) (SpW K 1 (W_Net_many K a)) := by cases two; exact .inl ⟨rfl, rfl⟩; exact .inr ⟨rfl, rfl⟩
theorem r_inner (K : PySem.W.Frag) (a : Ad) (two : Bool) : R_inner K a (cC a two) (SpWX K 2 (W_Net_inner K a)) := by cases two; exact .inl ⟨rfl, rfl⟩; exact .inr ⟨rfl, rfl⟩
def W_gates2 (K : PySem.W.Frag) (a : Ad) (two : Bool) : WTX := if two = true then W_Twoway_gates K a else W_Net_gates K a
theorem r_gates (K : PySem.W.Frag) (a : Ad) (two : Bool) : R_gates K a (cC a two) (SpWX K 2 (W_gates2 K a two)) := by cases two; exact .inl ⟨rfl, rfl⟩; exact .inr ⟨rfl, rfl⟩
theorem enum_ts (ts : List (Int × Int)) : enumD (ts.map eP) = (List.range ts.length).map fun i : Nat => PyData.tuple [.int (i : Int), eP (ts.getD i (0, 0))] := by
  apply List.ext_getElem?
  intro i
  by_cases h : i < ts.length
  · rw [enumD_get (d := eP ts[i]) (by rw [List.getElem?_map, List.getElem?_eq_getElem h]; rfl), List.getElem?_map, List.getElem?_range h]
    show _ = some (PyData.tuple [.int (i : Int), eP (ts.getD i (0, 0))])
    rw [List.getD_eq_getElem?_getD, List.getElem?_eq_getElem h]
    rfl
  · rw [List.getElem?_eq_none (by rw [enumD_len, List.length_map]; omega), List.getElem?_eq_none (by rw [List.length_map, List.length_range]; omega)]
def gB (two : Bool) (l : List Int) (t : Int × Int) : Bool := if two = true then decide (t.1 ∈ l) != decide (t.2 ∈ l) else decide (t.1 ∈ l) && !decide (t.2 ∈ l)
def inB (l : List Int) (t : Int × Int) : Bool := decide (t.1 ∈ l) && decide (t.2 ∈ l)
def ixL (f : Int × Int → Bool) (ts : List (Int × Int)) : List Int := ((List.range ts.length).filter fun i => f (ts.getD i (0, 0))).map fun i : Nat => (i : Int)
def sumAt (us is : List Int) : Int := (is.map fun i => us.getD i.toNat 0).sum
def costL (two : Bool) (ts : List (Int × Int)) (us l : List Int) : Int := sumAt us (ixL (gB two l) ts)
theorem ixL_mem {f : Int × Int → Bool} {ts : List (Int × Int)} {i : Int} : i ∈ ixL f ts ↔ ∃ k : Nat, i = (k : Int) ∧ k < ts.length ∧ f (ts.getD k (0, 0)) = true := by
  unfold ixL
  simp only [List.mem_map, List.mem_filter, List.mem_range]
  exact ⟨fun ⟨k, ⟨h1, h2⟩, h3⟩ => ⟨k, h3.symm, h1, h2⟩, fun ⟨k, h1, h2, h3⟩ => ⟨k, ⟨h2, h3⟩, h1.symm⟩⟩
theorem ixL_len {f : Int × Int → Bool} {ts : List (Int × Int)} : (ixL f ts).length ≤ ts.length := by
  unfold ixL
  rw [List.length_map]
  exact Nat.le_trans (List.length_filter_le _ _) (by rw [List.length_range]; exact Nat.le_refl _)
theorem bne_eq (i j : Bool) : PyData.bool (!eqS (.bool i) (.bool j)) = .bool (i != j) := by cases i <;> cases j <;> rfl
theorem mem_perm {ms l : List Int} (h : ms.Perm l) (x : Int) : decide (x ∈ ms) = decide (x ∈ l) := by
  by_cases q : x ∈ l
  · rw [decide_eq_true q, decide_eq_true (h.mem_iff.mpr q)]
  · rw [decide_eq_false q, decide_eq_false (fun z => q (h.mem_iff.mp z))]
section
variable {K : PySem.W.Frag} {a : Ad} {B : Base} {δ : En} {te ta tb tc : TE} {tt : TT} {E : XK} {P : Pd} {R : XR} {C : Addr} {two : Bool} {n : Int} {ts : List (Int × Int)}
theorem ed_size {i : Nat} (T : NetTxt K C) (h : δ[i]? = some (.sh (eNet C n ts))) : ED K B (tFld K (tVar i) "size") δ (· = .int n) := ed_fld (i := 0) (ds := [.int n, eV ts]) T.cl T.nS nd_net (ed_var h) rfl rfl
theorem ed_ties {i : Nat} (T : NetTxt K C) (h : δ[i]? = some (.sh (eNet C n ts))) : ED K B (tFld K (tVar i) "ties") δ (· = .tuple (ts.map eP)) := ed_fld (i := 1) (ds := [.int n, eV ts]) T.cl T.nT nd_net (ed_var h) rfl rfl
theorem wd_ties {i : Nat} (T : NetTxt K C) (h : δ[i]? = some (.sh (eNet C n ts))) : WD K B (iEnumT K (tCons (tFld K (tVar i) "ties") tNil)) δ (· = (List.range ts.length).map fun i : Nat => PyData.tuple [.int (i : Int), eP (ts.getD i (0, 0))]) := by
  have q := wd_enumT (K := K) (B := B) (ds := ts.map eP) (ea_cons (ed_ties T h) ea_nil)
  rw [enum_ts] at q
  exact q
theorem tieinj (x y : Nat) (e : PyData.tuple [.int (x : Int), eP (ts.getD x (0, 0))] = PyData.tuple [.int (y : Int), eP (ts.getD y (0, 0))]) : x = y := by injection e with e; injection e with e; injection e with e; omega
theorem w_Net_many (T : NetTxt K C) (p : P (.int (ts.length : Int))) : W_Net_many K a [eNet C n ts] P := fun B =>
  sd_retd (d := .int (ts.length : Int)) (ED.is (ed_cb (ea_cons (ed_ties T rfl) ea_nil) (cd_lenT (ds := ts.map eP))) (by rw [List.length_map])) p
theorem ed_many (T : Nk K a) {i : Nat} (h : δ[i]? = some (.sh (eNet (cC a two) n ts))) : ED K B (tPropU (R_many K a) (tVar i)) δ (· = .int (ts.length : Int)) := ed_pN (r_many K a two) (ed_var h) (w_Net_many (T.n two) rfl)
theorem ed_ix {f : Int × Int → Bool} (T : NetTxt K C) (h : δ[0]? = some (.sh (eNet C n ts))) (hz : ts.length ≤ 1000)
    (hl : (wipeD δ [3, 4, 5])[0]? = some (.sh (eNet C n ts)) → ∀ i : Nat, i < ts.length → ET K B tt ((((wipeD δ [3, 4, 5]).set 3 (.sh (.int (i : Int)))).set 4 (.sh (.int (ts.getD i (0, 0)).1))).set 5 (.sh (.int (ts.getD i (0, 0)).2))) (· = f (ts.getD i (0, 0))))
    (h0 : (wipeD δ [3, 4, 5])[0]? = some (.sh (eNet C n ts))) (h3 : 5 < δ.length) :
    ED K B (tCB (rTupQ K) (tCons (tLc (iEnumT K (tCons (tFld K (tVar 0) "ties") tNil)) (gTup K 2 (gCons (gName 3) (gCons (gTup K 2 (gCons (gName 4) (gCons (gName 5) gNil))) gNil))) tt (tVar 3) [3, 4, 5]) tNil)) δ (· = eU (ixL f ts)) := by
  refine ed_cb (ea_cons (EL.edd (ds := (ixL f ts).map PyData.int) (EL.imp (el_lcx (List.range ts.length) (fun i : Nat => PyData.tuple [.int (i : Int), eP (ts.getD i (0, 0))]) tieinj (fun i => f (ts.getD i (0, 0))) (fun i => .int (i : Int)) (wd_ties T h) (fun i hi => ⟨_, _, gd_12, fun _ h => h, hl h0 i (List.mem_range.mp hi), fun _ => ed_var ?_⟩) (by rw [List.length_range]; omega)) (fun es e => ?_))) ea_nil) cd_tupL
  · have e : (wipeD δ [3, 4, 5]).length = δ.length := by simp [wipeD]
    simp only [List.getElem?_set, List.length_set, e]
    simp
    omega
  · rw [e]
    unfold ixL
    rw [List.map_map]
    rfl
theorem w_Twoway_gates {l : List Int} {d : PyData} (T : NetTxt K C) (hl : LotIn n l) (hz : l.length < 64) (hts : ts.length ≤ 1000) (hd : RowV (l.map PyData.int) d) (p : P (eU (ixL (gB true l) ts))) : W_Twoway_gates K a [eNet C n ts, d] P R := fun B E hE => by
  refine sd_cons (sd_asg (Pd := fun d => ∃ ms : List Int, d = eU ms ∧ ms.Perm l) (ed_cX0 (ea_cons (ed_size T rfl) (ea_cons (ed_var rfl) ea_nil)) (w_good_lot hl hz hd fun ms h _ => ⟨ms, rfl, h⟩)) ?_)
  rintro _ ⟨ms, rfl, hm⟩
  refine sd_retd (ed_ix (f := gB true l) T rfl hts (fun _ i hi => ?_) rfl (Nat.le_refl 6)) p
  unfold gB
  rw [if_pos rfl, ← mem_perm hm, ← mem_perm hm]
  exact et_test ((ed_opd (ed_opd (ed_var rfl) (ed_var rfl) rd_inT) (ed_opd (ed_var rfl) (ed_var rfl) rd_inT) (rd_ne rfl)).is (bne_eq _ _))
theorem w_Net_gates {l : List Int} {d : PyData} (T : NetTxt K C) (hl : LotIn n l) (hz : l.length < 64) (hts : ts.length ≤ 1000) (hd : RowV (l.map PyData.int) d) (p : P (eU (ixL (gB false l) ts))) : W_Net_gates K a [eNet C n ts, d] P R := fun B E hE => by
  refine sd_cons (sd_asg (Pd := fun d => ∃ ms : List Int, d = eU ms ∧ ms.Perm l) (ed_cX0 (ea_cons (ed_size T rfl) (ea_cons (ed_var rfl) ea_nil)) (w_good_lot hl hz hd fun ms h _ => ⟨ms, rfl, h⟩)) ?_)
  rintro _ ⟨ms, rfl, hm⟩
  refine sd_retd (ed_ix (f := gB false l) T rfl hts (fun _ i hi => ?_) rfl (Nat.le_refl 6)) p
  unfold gB
  rw [if_neg (by decide), ← mem_perm hm, ← mem_perm hm]
  exact et_and (et_test (ed_opd (ed_var rfl) (ed_var rfl) rd_inT)) fun _ => et_test ((ed_opd (ed_var rfl) (ed_var rfl) rd_inT).is (by simp))
theorem w_gates2 {l : List Int} {d : PyData} (T : NetTxt K C) (hl : LotIn n l) (hz : l.length < 64) (hts : ts.length ≤ 1000) (hd : RowV (l.map PyData.int) d) (p : P (eU (ixL (gB two l) ts))) : W_gates2 K a two [eNet C n ts, d] P R := by
  cases two
  · exact w_Net_gates T hl hz hts hd p
  · exact w_Twoway_gates T hl hz hts hd p
theorem w_amount {us is : List Int} (h : ∀ i ∈ is, 0 ≤ i ∧ i < us.length) (hz : is.length ≤ 50000) (p : P (.int (sumAt us is))) : W_amount K a [eU us, eU is] P R := fun B E hE => by
  refine sd_retd (d := .int (sumAt us is)) (ed_cb (ea_cons (EL.edd (ds := (is.map fun i => us.getD i.toNat 0).map PyData.int) ?_) ea_nil) cd_sum) p
  rw [List.map_map]
  refine el_mapx is PyData.int int_inj _ (wd_tup (ds := is.map PyData.int) (ed_var rfl)) (fun i hi => ⟨_, _, gd_name, fun _ h => h, ?_⟩) hz
  obtain ⟨h0, h1⟩ := h i hi
  obtain ⟨k, rfl⟩ : ∃ k : Nat, i = (k : Int) := ⟨i.toNat, by omega⟩
  refine ed_opd (ed_var rfl) (ed_var rfl) (rd_ixT (atI_nat ?_))
  have hn : k < us.length := by omega
  show (us.map PyData.int)[k]? = some (PyData.int (us.getD (Int.toNat (k : Int)) 0))
  rw [Int.toNat_natCast, List.getElem?_map, List.getD_eq_getElem?_getD, List.getElem?_eq_getElem hn]
  rfl
structure WdOk (ts : List (Int × Int)) (us : List Int) : Prop where
  len : us.length = ts.length
  nn : ∀ u ∈ us, 0 ≤ u
theorem w_world_of {us : List Int} {d : PyData} (T : Nk K a) (hw : WdOk ts us) (hz : ts.length ≤ 1000) (hd : RowV (us.map PyData.int) d) (p : P (eU us)) : W_world_of K a [eNet (cC a two) n ts, d] P R := fun B E hE =>
  sd_ret (ed_cX0 (ea_cons (ed_many T rfl) (ea_cons (ed_var rfl) ea_nil)) (w_good_world (by rw [hw.len]) hw.nn (by rw [hw.len]; exact hz) hd p)) fun d p => p
theorem w_cost {us l : List Int} {d e : PyData} (T : Nk K a) (hw : WdOk ts us) (hts : ts.length ≤ 1000) (hd : RowV (us.map PyData.int) d) (hl : LotIn n l) (hz : l.length < 64) (he : RowV (l.map PyData.int) e) (p : P (.int (costL two ts us l))) : W_cost K a [eNet (cC a two) n ts, d, e] P R := fun B E hE => by
  refine sd_cons (sd_asgd (d := eU us) (ed_cX0 (ea_cons (ed_var rfl) (ea_cons (ed_var rfl) ea_nil)) (w_world_of T hw hts hd rfl)) ?_)
  refine sd_ret (ed_cX0 (ea_cons (ed_var rfl) (ea_cons (ed_mX (r_gates K a two) nog_net (ed_var rfl) (ea_cons (ed_var rfl) ea_nil) (w_gates2 (T.n two) hl hz hts he rfl) EOk.no) ea_nil)) (w_amount ?_ ?_ p)) fun d p => p
  · intro i hi
    obtain ⟨k, rfl, hk, _⟩ := ixL_mem.mp hi
    rw [hw.len]
    omega
  · exact Nat.le_trans ixL_len (by omega)
theorem w_is_pair {p : Int × Int} (h : InR n [p]) (q : P (.bool true)) : W_is_pair K a [.int n, eP p] P R := fun B E hE => by
  obtain ⟨h1, h2, h3, h4⟩ := h p List.mem_cons_self
  refine sd_retd (d := .bool true) (ED.is (ed_andV (b := true) ((ed_isRow (d := eP p) rfl (ed_var rfl))) fun _ => ED.is (ed_andV (b := true) (ed_opd (ed_cb (ea_cons (ed_var rfl) ea_nil) (cd_lenT (ds := [.int p.1, .int p.2]))) ed_int (rd_eq rfl)) fun _ => ED.is (ed_cb (ea_cons (EL.edd (ds := ([true, true] : List Bool).map PyData.bool) ?_) ea_nil) cd_all) rfl) rfl) rfl) q
  refine EL.imp (el_mapx [p.1, p.2] PyData.int int_inj (fun i => .bool (ixD (.int i) n)) (wd_tup (ds := [.int p.1, .int p.2]) (ed_var rfl)) (fun i hi => ⟨_, _, gd_name, fun _ h => h, ed_isIx rfl (ed_var rfl) (ed_var rfl)⟩) (by show 2 ≤ 50000; omega)) fun es e => ?_
  rw [e]
  show [PyData.bool (decide (0 ≤ p.1) && decide (p.1 < n)), PyData.bool (decide (0 ≤ p.2) && decide (p.2 < n))] = _
  rw [decide_eq_true h1, decide_eq_true h2, decide_eq_true h3, decide_eq_true h4]
  rfl
theorem w_good_ends (h : InR n ts) (hz : ts.length ≤ 40) (p : P (eV ts)) : W_good_ends K a [.int n, eTs ts] P R := fun B E hE => by
  have wl : ∀ {δ : En}, δ[1]? = some (.sh (eTs ts)) → ED K B (tCB (rLenQ K) (tCons (tVar 1) tNil)) δ (· = .int (ts.length : Int)) := fun g => (ed_cb (ea_cons (ed_var g) ea_nil) (cd_lenL (ds := ts.map eP))).is (by rw [List.length_map])
  refine sd_cons (sd_ifd (x := false) ((et_or (a := false) (et_not (et_B (ed_isRow (d := eTs ts) rfl (ed_var rfl)))) fun _ => et_test (ed_opb (wl rfl) ed_int)).is (by show (false || decide ((40 : Int) < (ts.length : Int))) = false; rw [decide_eq_false (by omega)]; rfl)) (fun h => by cases h) (fun _ => sd_next ?_))
  refine sd_mid (fun δ' => ∃ s t : Sl, δ' = [.sh (.int n), .sh (eTs ts), s, t]) (sd_ford (fun i δ' => ∃ s t : Sl, δ' = [.sh (.int n), .sh (eTs ts), s, t]) (wd_enum (ds := ts.map eP) (ea_cons (ed_var rfl) ea_nil)) ⟨_, _, rfl⟩ ?_ fun _ h => h) ?_
  · rintro i d _ hi ⟨s, t, rfl⟩
    obtain ⟨x, hx, rfl⟩ := enum_at hi
    obtain ⟨q, hq, rfl⟩ := List.mem_map.mp (List.mem_of_getElem? hx)
    exact ⟨_, _, gd_2, sd_ifd (x := false) (et_not (et_B (ed_cX0 (ea_cons (ed_var rfl) (ea_cons (ed_var rfl) ea_nil)) (w_is_pair (P := (· = .bool true)) (InR.one (h q hq)) rfl)))) (fun h => by cases h) (fun _ => sd_next ⟨_, _, rfl⟩)⟩
  · rintro _ ⟨s, t, rfl⟩
    exact sd_retd (d := eV ts) (ed_cb (ea_cons (EL.edd (ds := ts.map eP) (el_mapx ts eP eP_inj eP (wd_list (ds := ts.map eP) (ed_var rfl)) (fun p hp => ⟨_, _, gd_name, fun _ h => h, ed_cb (ea_cons (ed_var rfl) ea_nil) cd_tupT⟩) (by omega))) ea_nil) cd_tupL) p
theorem init_run (T : NetTxt K C) {vs : List V} {H : Hp} {Q : VK} {E : XK} (h : spInit K C vs H Q E) : t_Net__init_ K a E { nx := fun _ H' => Q .non H', rt := Q } (L2.start N_Net__init_ vs) H := by
  obtain ⟨G, x, dx, n, tv, ts, rfl, gh, gx, hx, rt, n1, n2, hr, hl, k⟩ := h
  have nx := gh.nmu hx ll_ins
  refine ⟨.int n, rfl, G, [.int n], (· = .int n), noR, gh, .one (.int n), rfl, w_good_size n1 n2 rfl, fun d e v G1 H1 J rv => ?_, EOk.no⟩
  subst e
  rw [rv.i]
  refine ⟨.ref x, rfl, x, C, dx, [], rfl, J.h0 x _ hx nx, T.cl, T.nS, by decide, ?_⟩
  have g1x : G1 x = none := J.hid x (nn hx) gx
  have e2 : I0 G1 (upd H1 x (.ins C dx (putF "size" (.int n) []))) := J.i0w g1x (J.h0 x _ hx nx)
  have nx2 := e2.nmu upd_same ll_ins
  refine ⟨.int n, rfl, tv, rfl, G1, [.int n, eTs ts], (· = eV ts), noR, e2, .cons (.int n) (.one (rt.mono J.g0)), rfl, w_good_ends hr hl rfl, fun d2 e v2 G3 H3 J2 rv2 => ?_, EOk.no⟩
  subst e
  refine ⟨.ref x, rfl, x, C, dx, [("size", .int n)], rfl, J2.h0 x _ upd_same nx2, T.cl, T.nT, (by show 1 < 1000; decide), ?_⟩
  have g3x : G3 x = none := J2.hid x (nn upd_same) g1x
  refine k G3 _ v2 (J.g0.trans J2.g0) (J2.i0w g3x (J2.h0 x _ upd_same nx2)) g3x (fun b o e ne nt => ?_) (fun b nb gb => ?_) upd_same rv2
  · rw [upd_ne ne]
    exact J2.h0 b o (by show upd H1 x _ b = some o; rw [upd_ne ne]; exact J.h0 b o e fun z => z.elim id nt) fun z => z.elim id nt
  · by_cases hb : b = x
    · rw [hb]; exact g3x
    · refine J2.hid b ?_ (J.hid b nb gb)
      show upd H1 x _ b ≠ none
      rw [upd_ne hb]
      by_cases m : Tb.tb b
      · exact Tb.nn ((J.dr b (.inr m)).2.t m)
      · cases e : H b with
        | none => exact absurd e nb
        | some o => rw [J.h0 b o e fun z => z.elim id m]; exact fun z => by cases z
theorem ed_make (ha : ED K B ta δ (· = .int n)) (hb : ED K B tb δ (· = eTs ts)) (n1 : 1 ≤ n) (n2 : n ≤ 12) (hr : InR n ts) (hl : ts.length ≤ 40) : ED K B (tMake C (spInit K C) [] E0 (tCons ta (tCons tb tNil))) δ (· = eNet C n ts) := fun G H σ E Q q =>
  ha G H σ E _ fun v d G0 H0 e0 m0 r0 => hb G0 H0 σ (E.at m0) _ fun tv d2 G1 H1 e1 m1 r1 => by
    subst e0; subst e1
    rw [(r0.mono m1.gg).i]
    intro x dx hx hdx hne
    have mm := m0.trans m1 E.iv
    have I1 : Iv B G1 H1 := E.iv.at mm
    have g1x : G1 x = none := g_none I1 hx
    have g1d : G1 dx = none := g_none I1 hdx
    have keep : ∀ b o, H1 b = some o → upd (upd H1 dx (HO.own x)) x (HO.ins C dx []) b = some o := fun b o e => by rw [upd_ne (ne_of_none e hx), upd_ne (ne_of_none e hdx)]; exact e
    refine ⟨G1, x, dx, n, tv, ts, rfl, ⟨fun b o e => keep b o (I1.gh b o e), fun b m => ⟨(I1.dr b (.inr m)).1, Tb.keep (fun c o e _ => keep c o e) ((I1.dr b (.inr m)).2.t m)⟩⟩, g1x, upd_same, r1, n1, n2, hr, hl, fun G' H' tv' g0 gh gx hh hid hx' rt => ⟨rfl, ?_⟩⟩
    have ex : Ex G' (upd G' x (.ins C dx [("size", .int n), ("ties", tv')])) := Ex.new gx
    refine q (.ref x) _ (upd G' x (.ins C dx [("size", .int n), ("ties", tv')])) H' rfl (mm.trans ⟨g0.trans ex, fun b o e => ?_, fun b o e nm => hh b o (keep b o e) (ne_of_none e hx) fun z => nm (.inr z), fun b nb gb => ?_, fun b mu dr => ⟨mu, fun dm => ?_, fun tb => (gh.tb b tb).2⟩⟩ E.iv) (.ins upd_same rfl (.cons (.int n) (.one (rt.mono ex))))
    · by_cases hb : b = x
      · subst hb
        rw [upd_same] at e
        cases e
        exact hx'
      · rw [upd_ne hb] at e
        exact gh.ex b o e
    · have hb : b ≠ x := fun y => nb (by rw [y]; exact hx)
      rw [upd_ne hb]
      refine hid b (fun z => ?_) gb
      cases e : H1 b with
      | none => exact absurd e nb
      | some o => rw [keep b o e] at z; cases z
    · obtain ⟨n, ns, e, r⟩ := dr.d dm
      exact ⟨n, ns, hh b _ (keep b _ e) (ne_of_none e hx) fun z => Tb.nodr (dr.t z) (dr.d dm), r⟩
def restL (n : Nat) (l : List Int) : List Int := ((List.range n).filter fun i : Nat => !decide ((i : Int) ∈ l)).map fun i : Nat => (i : Int)
theorem w_rest {m : Nat} {l : List Int} (hm : m ≤ 1000) (p : P (eU (restL m l))) : W_rest K a [.int (m : Int), eU l] P R := fun B E hE => by
  refine sd_retd (d := eU (restL m l)) (ed_cb (ea_cons (EL.edd (ds := (restL m l).map PyData.int) (EL.imp (el_lcr (lo := 0) (n := m) (fun i => !decide ((i : Int) ∈ l)) (fun i => .int (i : Int)) ((wd_rng1 (n := (m : Int)) (ea_cons (ed_var rfl) ea_nil) (by omega) (by omega))) (fun i hi => ⟨_, _, gd_name, fun _ h => h, et_test (ed_opd ((ed_var rfl).is (by rw [Int.zero_add])) (ed_var rfl) rd_inT), fun _ => (ed_var rfl).is (by rw [Int.zero_add])⟩) (by omega)) (fun es e => ?_))) ea_nil) cd_tupB) p
  rw [e]
  unfold restL
  rw [List.map_map]
  rfl
end
end PL
namespace FL
def su {α : Type} (L : List α) (f : α → Int) : Int := (L.map f).sum
theorem su_nil {α : Type} {f : α → Int} : su ([] : List α) f = 0 := rfl
theorem su_cons {α : Type} {f : α → Int} {x : α} {L : List α} : su (x :: L) f = f x + su L f := by unfold su; rw [List.map_cons, List.sum_cons]
theorem su_add {α : Type} {f g : α → Int} : ∀ L : List α, su L (fun x => f x + g x) = su L f + su L g
  | [] => rfl
  | x :: L => by rw [su_cons, su_cons, su_cons, su_add L]; omega
theorem su_sub {α : Type} {f g : α → Int} : ∀ L : List α, su L (fun x => f x - g x) = su L f - su L g
  | [] => rfl
  | x :: L => by rw [su_cons, su_cons, su_cons, su_sub L]; omega
theorem su_congr {α : Type} {f g : α → Int} : ∀ {L : List α}, (∀ x ∈ L, f x = g x) → su L f = su L g
  | [], _ => rfl
  | x :: L, h => by rw [su_cons, su_cons, h x List.mem_cons_self, su_congr fun y hy => h y (List.mem_cons_of_mem _ hy)]
theorem su_le {α : Type} {f g : α → Int} : ∀ {L : List α}, (∀ x ∈ L, f x ≤ g x) → su L f ≤ su L g
  | [], _ => Int.le_refl _
  | x :: L, h => by
    have h1 := h x List.mem_cons_self
    have h2 := su_le (L := L) fun y hy => h y (List.mem_cons_of_mem _ hy)
    rw [su_cons, su_cons]; omega
theorem su_0 {α : Type} {f : α → Int} : ∀ {L : List α}, (∀ x ∈ L, f x = 0) → su L f = 0
  | [], _ => rfl
  | x :: L, h => by rw [su_cons, h x List.mem_cons_self, su_0 fun y hy => h y (List.mem_cons_of_mem _ hy)]; rfl
theorem su_one {α : Type} {f : α → Int} {x : α} : ∀ {L : List α}, L.Nodup → x ∈ L → (∀ y ∈ L, y ≠ x → f y = 0) → su L f = f x
  | [], _, h, _ => by cases h
  | z :: L, nd, h, h0 => by
    rw [List.nodup_cons] at nd
    rw [su_cons]
    rcases List.mem_cons.mp h with rfl | h
    · rw [su_0 fun y hy => h0 y (List.mem_cons_of_mem _ hy) fun e => nd.1 (e ▸ hy)]; omega
    · rw [h0 z List.mem_cons_self fun e => nd.1 (e ▸ h), su_one nd.2 h fun y hy => h0 y (List.mem_cons_of_mem _ hy)]; omega
theorem su_swap {α β : Type} {f : α → β → Int} {M : List β} : ∀ L : List α, su L (fun x => su M fun y => f x y) = su M fun y => su L fun x => f x y
  | [] => (su_0 fun y _ => rfl).symm
  | x :: L => by
    rw [su_cons, su_swap L, ← su_add]
    exact su_congr fun y _ => by rw [su_cons]
theorem su_perm {α : Type} {f : α → Int} {L M : List α} (h : L.Perm M) : su L f = su M f := by
  induction h with
  | nil => rfl
  | cons x _ ih => rw [su_cons, su_cons, ih]
  | swap x y l => rw [su_cons, su_cons, su_cons, su_cons]; omega
  | trans _ _ h1 h2 => rw [h1, h2]
theorem su_ind {α : Type} [DecidableEq α] {x : α} {v : Int} {L : List α} (nd : L.Nodup) : (su L fun y => if x = y then v else 0) = if x ∈ L then v else 0 := by
  by_cases h : x ∈ L
  · rw [if_pos h, su_one nd h fun y _ ne => if_neg (Ne.symm ne), if_pos rfl]
  · rw [if_neg h]
    exact su_0 fun y hy => if_neg fun (e : x = y) => h (by rw [e]; exact hy)
structure Nt where
  m : Nat
  a : Nat → Int
  b : Nat → Int
  cap : Nat → Int
  two : Bool
namespace Nt
variable (N : Nt)
def back (t : Nat) : Int := if N.two = true then N.cap t else 0
def row (r : Nat → Int) (t : Nat) : Int := N.cap t - r (2 * t)
def led (r : Nat → Int) (p : Int) : Int := su (List.range N.m) fun t => (if N.a t = p then N.row r t else 0) - (if N.b t = p then N.row r t else 0)
def src (e : Nat) : Int := if e % 2 = 0 then N.a (e / 2) else N.b (e / 2)
def dst (e : Nat) : Int := if e % 2 = 0 then N.b (e / 2) else N.a (e / 2)
end Nt
def opp (e : Nat) : Nat := if e % 2 = 0 then e + 1 else e - 1
def push (r : Nat → Int) (v : Int) (e : Nat) : Nat → Int := fun i => if i = e then r i - v else if i = opp e then r i + v else r i
theorem opp_half (e : Nat) : opp e / 2 = e / 2 ∧ opp e ≠ e ∧ opp (opp e) = e := by
  unfold opp
  by_cases h : e % 2 = 0
  · rw [if_pos h]
    refine ⟨by omega, by omega, ?_⟩
    rw [if_neg (by omega)]; omega
  · rw [if_neg h]
    refine ⟨by omega, by omega, ?_⟩
    rw [if_pos (by omega)]; omega
structure Ok (N : Nt) (r : Nat → Int) : Prop where
  pair : ∀ t, t < N.m → r (2 * t) + r (2 * t + 1) = N.cap t + N.back t
  nn : ∀ e, e < 2 * N.m → 0 ≤ r e
section
variable {N : Nt} {r : Nat → Int} {v : Int} {e : Nat}
theorem led_push (he : e < 2 * N.m) (p : Int) : N.led (push r v e) p = N.led r p + (if N.src e = p then v else 0) - (if N.dst e = p then v else 0) := by
  have ht : e / 2 < N.m := by omega
  have key : N.led (push r v e) p - N.led r p = (if N.src e = p then v else 0) - (if N.dst e = p then v else 0) := by
    unfold Nt.led
    rw [← su_sub, su_one (x := e / 2) List.nodup_range (List.mem_range.mpr ht) (fun t _ ne => ?_)]
    · unfold Nt.row Nt.src Nt.dst push opp
      by_cases h0 : e % 2 = 0
      · simp only [if_pos h0]
        rw [if_pos (show 2 * (e / 2) = e by omega)]
        by_cases ha : N.a (e / 2) = p
        · by_cases hb : N.b (e / 2) = p
          · simp only [if_pos ha, if_pos hb]; omega
          · simp only [if_pos ha, if_neg hb]; omega
        · by_cases hb : N.b (e / 2) = p
          · simp only [if_neg ha, if_pos hb]; omega
          · simp only [if_neg ha, if_neg hb]; omega
      · simp only [if_neg h0]
        rw [if_neg (show ¬ 2 * (e / 2) = e by omega), if_pos (show 2 * (e / 2) = e - 1 by omega)]
        by_cases ha : N.a (e / 2) = p
        · by_cases hb : N.b (e / 2) = p
          · simp only [if_pos ha, if_pos hb]; omega
          · simp only [if_pos ha, if_neg hb]; omega
        · by_cases hb : N.b (e / 2) = p
          · simp only [if_neg ha, if_pos hb]; omega
          · simp only [if_neg ha, if_neg hb]; omega
    · have er : N.row (push r v e) t = N.row r t := by
        unfold Nt.row push
        rw [if_neg (show ¬ 2 * t = e by omega), if_neg (show ¬ 2 * t = opp e by unfold opp; split <;> omega)]
      rw [er]; omega
  omega
def pushes (r : Nat → Int) (v : Int) (w : List Nat) : Nat → Int := w.foldl (fun r e => push r v e) r
theorem led_pushes (p : Int) : ∀ (w : List Nat) (r : Nat → Int), (∀ e ∈ w, e < 2 * N.m) → N.led (pushes r v w) p = N.led r p + (su w fun e => (if N.src e = p then v else 0) - (if N.dst e = p then v else 0))
  | [], r, _ => by rw [su_nil]; exact (Int.add_zero _).symm
  | e :: w, r, h => by
    show N.led (pushes (push r v e) v w) p = _
    rw [led_pushes p w _ fun x hx => h x (List.mem_cons_of_mem _ hx), led_push (h e List.mem_cons_self), su_cons]
    omega
inductive Back (N : Nt) (S : Int → Prop) : Int → List Nat → Prop
  | root {p : Int} : S p → Back N S p []
  | step {p : Int} {e : Nat} {w : List Nat} : N.dst e = p → Back N S (N.src e) w → Back N S p (e :: w)
theorem back_sum {S : Int → Prop} {q : Int} {w : List Nat} (h : Back N S q w) : ∃ s, S s ∧ ∀ p, (su w fun e => (if N.src e = p then v else 0) - (if N.dst e = p then v else 0)) = (if s = p then v else 0) - (if q = p then v else 0) := by
  induction h with
  | @root p hp => exact ⟨p, hp, fun x => by rw [su_nil]; omega⟩
  | @step p e w hd _ ih =>
    obtain ⟨s, hs, k⟩ := ih
    refine ⟨s, hs, fun x => ?_⟩
    rw [su_cons, k x, hd]
    omega
def gate (N : Nt) (X : Int → Bool) (t : Nat) : Int := if N.two = true then (if X (N.a t) = X (N.b t) then 0 else N.cap t) else (if X (N.a t) = true ∧ X (N.b t) = false then N.cap t else 0)
def cost (N : Nt) (X : Int → Bool) : Int := su (List.range N.m) (gate N X)
def outs (N : Nt) (r : Nat → Int) (X : Int → Bool) : Int := su (List.range N.m) fun t => (if X (N.a t) = true then N.row r t else 0) - (if X (N.b t) = true then N.row r t else 0)
theorem outs_led {L : List Int} (nd : L.Nodup) : su L (N.led r) = outs N r fun p => decide (p ∈ L) := by
  unfold Nt.led outs
  rw [su_swap (f := fun p t => (if N.a t = p then N.row r t else 0) - (if N.b t = p then N.row r t else 0))]
  refine su_congr fun t _ => ?_
  rw [su_sub, su_ind nd, su_ind nd]
  simp only [decide_eq_true_eq]
structure Flow (N : Nt) (S T : Int → Bool) (r : Nat → Int) : Prop where
  ok : Ok N r
  keep : ∀ p, S p = false → T p = false → N.led r p = 0
theorem value_lot {S T : Int → Bool} {L M : List Int} (F : Flow N S T r) (nl : L.Nodup) (nm : M.Nodup) (hl : ∀ p, p ∈ L ↔ S p = true) (hs : ∀ p, S p = true → p ∈ M) (ht : ∀ p ∈ M, T p = false) : su M (N.led r) = su L (N.led r) := by
  have e1 : su M (N.led r) = su M fun p => if S p = true then N.led r p else 0 := su_congr fun p hp => by
    cases h : S p with
    | true => rw [if_pos rfl]
    | false => rw [if_neg (by decide)]; exact F.keep p h (ht p hp)
  rw [e1]
  have key : ∀ {M : List Int}, M.Nodup → ∀ {L : List Int}, L.Nodup → (∀ p ∈ L, p ∈ M) → (∀ p, p ∈ L → S p = true) → (∀ p ∈ M, S p = true → p ∈ L) → (su M fun p => if S p = true then N.led r p else 0) = su L (N.led r) := by
    intro M
    induction M with
    | nil =>
      intro _ L _ h _ _
      cases L with
      | nil => rfl
      | cons x L => cases h x List.mem_cons_self
    | cons x M ih =>
      intro nm L nl h1 h2 h3
      rw [List.nodup_cons] at nm
      rw [su_cons]
      cases hx : S x with
      | false =>
        rw [if_neg (by decide), Int.zero_add]
        refine ih nm.2 nl (fun p hp => ?_) h2 fun p hp => h3 p (List.mem_cons_of_mem _ hp)
        rcases List.mem_cons.mp (h1 p hp) with e | e
        · rw [e] at hp
          rw [h2 x hp] at hx
          cases hx
        · exact e
      | true =>
        rw [if_pos rfl]
        have hxl := h3 x List.mem_cons_self hx
        have pm := List.perm_cons_erase hxl
        have e2 : su L (N.led r) = N.led r x + su (L.erase x) (N.led r) := by
          rw [← su_cons]
          exact su_perm pm
        rw [e2, ih nm.2 (nl.erase x) (fun p hp => ?_) (fun p hp => h2 p (List.mem_of_mem_erase hp)) (fun p hp hs => ?_)]
        · have hpl := List.mem_of_mem_erase hp
          rcases List.mem_cons.mp (h1 p hpl) with e | e
          · rw [e] at hp
            exact absurd hp (List.Nodup.not_mem_erase nl)
          · exact e
        · have hpl := h3 p (List.mem_cons_of_mem _ hp) hs
          exact (List.mem_erase_of_ne fun (e : p = x) => nm.1 (by rw [← e]; exact hp)).mpr hpl
  exact key nm nl (fun p hp => hs p ((hl p).mp hp)) (fun p hp => (hl p).mp hp) fun p _ h => (hl p).mpr h
end
end FL
namespace FL
section
variable {N : Nt} {r : Nat → Int} {v : Int} {S T : Int → Bool}
def start (N : Nt) : Nat → Int := fun e => if e % 2 = 0 then N.cap (e / 2) else N.back (e / 2)
theorem led_start (p : Int) : N.led (start N) p = 0 := su_0 fun t _ => by
  have row0 : N.row (start N) t = 0 := by
    unfold Nt.row start
    rw [if_pos (by omega), show 2 * t / 2 = t by omega]; omega
  rw [row0]
  split <;> split <;> rfl
inductive Rch (N : Nt) (r : Nat → Int) (S : Int → Bool) (q : List Int) (j : Nat) (p : Int) : Option (Nat × Int) → Prop
  | root : S p = true → Rch N r S q j p none
  | arc {e i : Nat} {h : Int} : i < j → q[i]? = some h → e < 2 * N.m → N.src e = h → N.dst e = p → 0 < r e → Rch N r S q j p (some (e, h))
def Tree (N : Nt) (r : Nat → Int) (S : Int → Bool) (q : List Int) (m : Int → Option (Option (Nat × Int))) : Prop := ∀ (j : Nat) (p : Int), q[j]? = some p → ∃ o, m p = some o ∧ Rch N r S q j p o
end
end FL
namespace DL
variable [DL.Tb]
open PySem PySem.Spec PyProof.Rows L2 Evl
section
variable {K : PySem.W.Frag} {B : Base} {δ : En} {ta tb : TE}
end
end DL
namespace PL
variable [DL.Tb]
open PySem PySem.Spec PyProof.Rows L2 Evl DL FL
def eWay (w : List Nat) : PyData := eIs (w.map fun e : Nat => (e : Int))
def eSt : Option (Nat × Int) → PyData
  | none => .none
  | some (e, h) => .tuple [.int (e : Int), .int h]
def EncM (m : Ky → Option PyData) (mm : Int → Option (Option (Nat × Int))) : Prop := ∀ x, m (.i x) = (mm x).map eSt
section
variable {K : PySem.W.Frag} {a : Ad} {B : Base} {δ : En} {te ta tb tc : TE} {E : XK} {P : Pd} {R : XR}

theorem ed_ixt {δ : En} {ta tb : TE} {ds : List PyData} {j : Nat} {d : PyData} (h : ED K B ta δ (· = .tuple ds)) (hj : ED K B tb δ (· = .int (j : Int))) (hd : ds[j]? = some d) : ED K B (tOp (rIxT K) ta tb) δ (· = d) := ed_opd h hj (rd_ixT (atI_nat hd))
end
abbrev fnR (rs : List Int) : Nat → Int := fun i => rs.getD i 0

section
variable {K : PySem.W.Frag} {a : Ad} {B : Base} {δ : En} {te ta tb tc : TE} {E : XK} {P : Pd} {R : XR}

theorem ed_atL {δ : En} {ta tb : TE} {s : List Int} {j : Nat} (h : ED K B ta δ (· = eIs s)) (hj : ED K B tb δ (· = .int (j : Int))) (h1 : j < s.length) : ED K B (tOp (rIxL K) ta tb) δ (· = .int (s.getD j 0)) := ed_opd h hj (rd_ixL (atI_nat (by
  show (s.map PyData.int)[j]? = _
  rw [List.getElem?_map, List.getD_eq_getElem?_getD, List.getElem?_eq_getElem h1]
  rfl)))
end
def ledL (ts : List (Int × Int)) (row : List Int) (m : Nat) (p : Int) : Int := su (List.range m) fun t => (if (ts.getD t (0, 0)).1 = p then row.getD t 0 else 0) - (if (ts.getD t (0, 0)).2 = p then row.getD t 0 else 0)

section
variable {K : PySem.W.Frag} {a : Ad} {B : Base} {δ : En} {te ta tb tc : TE} {E : XK} {P : Pd} {R : XR} {C : Addr}

end
section
variable {K : PySem.W.Frag} {a : Ad} {B : Base} {δ : En} {te ta tb tc : TE} {E : XK} {P : Pd} {R : XR} {C : Addr} {two : Bool}

end
end PL
namespace PL
variable [DL.Tb]
open PySem PySem.Spec PyProof.Rows L2 Evl DL FL
theorem nd_len : ∀ {l m : List Int}, l.Nodup → (∀ x ∈ l, x ∈ m) → l.length ≤ m.length
  | [], _, _, _ => Nat.zero_le _
  | x :: l, m, nd, h => by
    rw [List.nodup_cons] at nd
    have hx := h x List.mem_cons_self
    have ih := nd_len (l := l) (m := m.erase x) nd.2 fun y hy => (List.mem_erase_of_ne fun (e : y = x) => nd.1 (e ▸ hy)).mpr (h y (List.mem_cons_of_mem _ hy))
    rw [List.length_erase_of_mem hx] at ih
    have := List.length_pos_of_mem hx
    rw [List.length_cons]
    omega
theorem lot_len {n : Nat} {l : List Int} (h : LotIn n l) : l.length ≤ n := by
  have e := nd_len (m := (List.range n).map fun i : Nat => (i : Int)) h.1 fun x hx => by
    have := h.2 x hx
    exact List.mem_map.mpr ⟨x.toNat, List.mem_range.mpr (by omega), by omega⟩
  rw [List.length_map, List.length_range] at e
  exact e
def netN (two : Bool) (ts : List (Int × Int)) (us : List Int) : Nt := { m := ts.length, a := fun t => (ts.getD t (0, 0)).1, b := fun t => (ts.getD t (0, 0)).2, cap := fun t => us.getD t 0, two := two }
section
variable {K : PySem.W.Frag} {a : Ad} {B : Base} {δ : En} {te ta tb tc : TE} {E : XK} {P : Pd} {R : XR} {C : Addr} {two : Bool} {n : Nat} {ts : List (Int × Int)} {us : List Int}
end
end PL
namespace PL
variable [DL.Tb]
open PySem PySem.Spec PyProof.Rows L2 Evl DL FL
structure BI (N : Nt) (r : Nat → Int) (S : Int → Bool) (n : Nat) (S0 q : List Int) (mm : Int → Option (Option (Nat × Int))) : Prop where
  nd : q.Nodup
  rng : ∀ x ∈ q, 0 ≤ x ∧ x < n
  src : ∀ s ∈ S0, s ∈ q
  tree : Tree N r S q mm
  dom : ∀ x, (mm x).isSome = decide (x ∈ q)
theorem BI.len {N : Nt} {r : Nat → Int} {S : Int → Bool} {n : Nat} {S0 q : List Int} {mm : Int → Option (Option (Nat × Int))} (b : BI N r S n S0 q mm) : q.length ≤ n := lot_len ⟨b.nd, b.rng⟩
theorem EncM.put {m : Ky → Option PyData} {mm : Int → Option (Option (Nat × Int))} {e : Nat} {h y : Int} (k : EncM m mm) : EncM (putM m (.i y) (.tuple [.int (e : Int), .int h])) (fun x => if x = y then some (some (e, h)) else mm x) := fun x => by
  unfold putM
  by_cases c : x = y
  · show _ = Option.map eSt (if x = y then _ else _)
    rw [if_pos (by rw [c]), if_pos c]; rfl
  · show _ = Option.map eSt (if x = y then _ else _)
    rw [if_neg (fun z => c (Ky.i.inj z)), if_neg c]; exact k x
abbrev sb (S : List Int) : Int → Bool := fun p => decide (p ∈ S)
section
variable {K : PySem.W.Frag} {a : Ad} {B : Base} {δ : En} {te ta tb tc : TE} {E : XK} {P : Pd} {R : XR} {C : Addr} {two : Bool} {n : Nat} {ts : List (Int × Int)} {us : List Int}
end
end PL
namespace PL
variable [DL.Tb]
open PySem PySem.Spec PyProof.Rows L2 Evl DL FL
theorem su_filter {α : Type} {f : α → Int} {p : α → Bool} : ∀ L : List α, su (L.filter p) f = su L fun x => if p x = true then f x else 0
  | [] => rfl
  | x :: L => by
    rw [su_cons, ← su_filter L]
    by_cases h : p x = true
    · rw [List.filter_cons_of_pos h, su_cons, if_pos h]
    · rw [List.filter_cons_of_neg h, if_neg h]; omega
theorem sumAt_su {us : List Int} {f : Int × Int → Bool} {ts : List (Int × Int)} : sumAt us (ixL f ts) = su (List.range ts.length) fun t => if f (ts.getD t (0, 0)) = true then us.getD t 0 else 0 := by
  rw [← su_filter (p := fun t => f (ts.getD t (0, 0))) (f := fun t => us.getD t 0)]
  unfold sumAt ixL su
  rw [List.map_map]
  rfl
theorem costL_N {two : Bool} {ts : List (Int × Int)} {us M : List Int} : FL.cost (netN two ts us) (fun p => decide (p ∈ M)) = costL two ts us M := by
  unfold costL FL.cost
  rw [sumAt_su]
  refine su_congr fun t _ => ?_
  unfold gate gB netN
  cases two <;> simp only <;> by_cases h1 : (ts.getD t (0, 0)).1 ∈ M <;> by_cases h2 : (ts.getD t (0, 0)).2 ∈ M <;> simp [h1, h2]
theorem led_N {two : Bool} {ts : List (Int × Int)} {us row : List Int} {r : Nat → Int} (h : ∀ t, t < ts.length → row.getD t 0 = (netN two ts us).row r t) (p : Int) : ledL ts row ts.length p = (netN two ts us).led r p := by
  unfold ledL Nt.led
  refine su_congr fun t ht => ?_
  rw [h t (List.mem_range.mp ht)]
  rfl
theorem pushes_out {v : Int} {i : Nat} : ∀ {w : List Nat} {r : Nat → Int}, (∀ e ∈ w, i ≠ e ∧ i ≠ opp e) → pushes r v w i = r i
  | [], _, _ => rfl
  | e :: w, r, h => by
    show pushes (push r v e) v w i = r i
    rw [pushes_out fun x hx => h x (List.mem_cons_of_mem _ hx)]
    unfold push
    rw [if_neg (h e List.mem_cons_self).1, if_neg (h e List.mem_cons_self).2]
structure Last (N : Nt) (n : Nat) (S T M : List Int) (r : Nat → Int) : Prop where
  nd : M.Nodup
  src : ∀ s ∈ S, s ∈ M
  rng : ∀ x ∈ M, 0 ≤ x ∧ x < (n : Int)
  snk : ∀ x ∈ M, x ∉ T
  shut : ∀ e, e < 2 * N.m → N.src e ∈ M → N.dst e ∉ M → r e = 0
structure Kept (N : Nt) (S : Int → Bool) (r : Nat → Int) : Prop where
  loop : ∀ t, t < N.m → N.a t = N.b t → r (2 * t) = N.cap t
  src : ∀ p, S p = true → 0 ≤ N.led r p
theorem Kept.start {N : Nt} {S : Int → Bool} : Kept N S (FL.start N) := ⟨fun t _ _ => by unfold FL.start; rw [if_pos (by omega), show 2 * t / 2 = t by omega], fun p _ => by rw [led_start]; exact Int.le_refl 0⟩
theorem Kept.push {N : Nt} {S T : Int → Bool} {r : Nat → Int} {v : Int} {q : Int} {w : List Nat} (k : Kept N S r) (hv : 0 ≤ v) (hw : ∀ e ∈ w, e < 2 * N.m ∧ N.src e ≠ N.dst e) (b : Back N (fun p => S p = true) q w) (hq : S q = false) : Kept N S (pushes r v w) where
  loop := fun t ht e => by
    rw [pushes_out (i := 2 * t) fun x hx => ?_]
    · exact k.loop t ht e
    · have ne := (hw x hx).2
      have h2 := opp_half x
      unfold Nt.src Nt.dst at ne
      have key : x / 2 ≠ t := fun z => by
        rw [z, e] at ne
        split at ne <;> exact ne rfl
      exact ⟨by omega, by omega⟩
  src := fun p hp => by
    obtain ⟨s, hs, kk⟩ := back_sum (v := v) b
    rw [led_pushes p w r fun e he => (hw e he).1, kk p, if_neg (show ¬ q = p from fun z => by rw [z, hp] at hq; cases hq)]
    have := k.src p hp
    split <;> omega
def KeptT (N : Nt) (S T : Int → Bool) (r : Nat → Int) : Prop := Kept N S r ∧ ∀ p, T p = true → N.led r p ≤ 0
theorem KeptT.start {N : Nt} {S T : Int → Bool} : KeptT N S T (FL.start N) := ⟨Kept.start, fun p _ => by rw [led_start]; exact Int.le_refl 0⟩
theorem KeptT.push {N : Nt} {S T : Int → Bool} {r : Nat → Int} {v : Int} {q : Int} {w : List Nat} (k : KeptT N S T r) (hv : 0 ≤ v) (hw : ∀ e ∈ w, e < 2 * N.m ∧ N.src e ≠ N.dst e) (b : Back N (fun p => S p = true) q w) (hq : S q = false) (ap : ∀ p, S p = true → T p = false) : KeptT N S T (pushes r v w) := ⟨k.1.push (T := T) hv hw b hq, fun p hp => by
  obtain ⟨s, hs, kk⟩ := back_sum (v := v) b
  rw [led_pushes p w r fun e he => (hw e he).1, kk p, if_neg (show ¬ s = p from fun z => by rw [← z, ap s hs] at hp; cases hp)]
  have := k.2 p hp
  split <;> omega⟩
def WayP (N : Nt) (n : Nat) (S T : List Int) (rs : List Int) (d : PyData) : Prop :=
  (d = .list [] ∧ ∃ M, Last N n S T M (fnR rs)) ∨ ∃ (w : List Nat) (q : Int), d = eWay w ∧ Back N (fun x => sb S x = true) q w ∧ w.Nodup ∧ (∀ e ∈ w, e < 2 * N.m ∧ 0 < fnR rs e ∧ N.src e ≠ N.dst e) ∧ q ∈ T ∧ 0 < w.length ∧ w.length ≤ 1000
section
variable {K : PySem.W.Frag} {a : Ad} {B : Base} {δ : En} {te ta tb tc : TE} {E : XK} {P : Pd} {R : XR} {C : Addr} {two : Bool} {n : Nat} {ts : List (Int × Int)} {us : List Int}
theorem WayP.row {N : Nt} {S T rs : List Int} {d : PyData} (h : WayP N n S T rs d) : ∃ ds : List PyData, d = .list ds := by
  rcases h with ⟨h, _⟩ | ⟨w, q, h, _⟩
  · exact ⟨_, h⟩
  · exact ⟨_, h⟩
end
end PL
namespace PL
variable [DL.Tb]
open PySem PySem.Spec PyProof.Rows L2 Evl DL FL
def Held (two : Bool) (n : Nat) (ts : List (Int × Int)) (us l : List Int) (p : Int) : Prop := ∀ M, LotIn n M → p ∈ M → (∀ x ∈ M, x ∈ l) → costL two ts us l ≤ costL two ts us M
open Classical in
noncomputable def heldB (two : Bool) (n : Nat) (ts : List (Int × Int)) (us l : List Int) (p : Int) : Bool := decide (Held two n ts us l p)
theorem mem_restL {n : Nat} {l : List Int} {x : Int} : x ∈ restL n l ↔ (0 ≤ x ∧ x < n) ∧ x ∉ l := by
  unfold restL
  rw [List.mem_map]
  constructor
  · rintro ⟨i, hi, rfl⟩
    rw [List.mem_filter, List.mem_range] at hi
    exact ⟨by omega, by simpa using hi.2⟩
  · rintro ⟨h, hx⟩
    refine ⟨x.toNat, List.mem_filter.mpr ⟨List.mem_range.mpr (by omega), ?_⟩, by omega⟩
    rw [show ((x.toNat : Nat) : Int) = x by omega]
    simpa using hx
theorem restL_ok {n : Nat} {l : List Int} : LotIn n (restL n l) := by
  refine ⟨?_, fun x hx => (mem_restL.mp hx).1⟩
  unfold restL
  exact List.Pairwise.map _ (fun a b (h : a ≠ b) => show (a : Int) ≠ (b : Int) by omega) (List.nodup_range.filter _)
theorem costL_mem {two : Bool} {ts : List (Int × Int)} {us l m : List Int} (h : ∀ x, x ∈ l ↔ x ∈ m) : costL two ts us l = costL two ts us m := by
  rw [← costL_N, ← costL_N]
  have e : (fun p => decide (p ∈ l)) = fun p => decide (p ∈ m) := by
    funext p
    rw [decide_eq_decide]
    exact h p
  rw [e]
section
variable {K : PySem.W.Frag} {a : Ad} {B : Base} {δ : En} {te ta tb tc : TE} {E : XK} {P : Pd} {R : XR} {C : Addr} {two : Bool} {n : Nat} {ts : List (Int × Int)} {us l : List Int} {d dl d1 d2 : PyData}
end
end PL
namespace PL
variable [DL.Tb]
open PySem PySem.Spec PyProof.Rows L2 Evl DL FL
def loB (two : Bool) (u : Int) : Int := if two = true then -u else 0
def standB (two : Bool) (ts : List (Int × Int)) (us l row : List Int) (t : Nat) : Bool :=
  if gB two l (ts.getD t (0, 0)) = true then decide (row.getD t 0 = if (ts.getD t (0, 0)).1 ∈ l then us.getD t 0 else -(us.getD t 0))
  else if (ts.getD t (0, 0)).1 ∈ l ∧ (ts.getD t (0, 0)).2 ∈ l ∧ (ts.getD t (0, 0)).1 ≠ (ts.getD t (0, 0)).2 then decide (loB two (us.getD t 0) ≤ row.getD t 0) && decide (row.getD t 0 ≤ us.getD t 0)
  else decide (row.getD t 0 = 0)
def badB (ts : List (Int × Int)) (row S : List Int) (p : Int) : Bool := decide (ledL ts row ts.length p < 0) || (decide (0 < ledL ts row ts.length p) && !decide (p ∈ S))
section
variable {K : PySem.W.Frag} {a : Ad} {B : Base} {δ : En} {te ta tb tc : TE} {E : XK} {P : Pd} {R : XR} {C : Addr} {two : Bool} {n m : Nat} {ts : List (Int × Int)} {us l row S : List Int} {d dl dh dr : PyData} {ds : List PyData}
instance : Inhabited PyData := ⟨.none⟩
end
end PL
namespace PL
variable [DL.Tb]
open PySem PySem.Spec PyProof.Rows L2 Evl DL FL
section
variable {K : PySem.W.Frag} {a : Ad} {B : Base} {δ : En} {te ta tb tc : TE} {E : XK} {P : Pd} {R : XR} {C : Addr} {two : Bool} {n : Nat} {ts : List (Int × Int)} {us l : List Int} {d dl d1 d2 x : PyData} {x1 x2 : Str} {i j : Int} {ds : List PyData}
theorem sd_dropx {P : Po} (h : ED K B te δ (fun _ => False)) : SD K B (tDrop te) δ P := fun G H σ D E a b c d => h G H σ E _ fun v d G1 H1 pd m r => pd.elim
end
end PL
namespace PL
variable [DL.Tb]
open PySem PySem.Spec PyProof.Rows L2 Evl DL
local macro_rules | `(tactic| walk_at "ed") => `(tactic| (repeat' (first
  | exact ed_int | exact ed_bl | exact ed_str | exact ed_non | exact ed_var rfl | exact ea_nil | exact et_yes
  | refine ed_opi ?_ ?_ | refine ed_opb ?_ ?_ | refine ed_opc ?_ ?_ ?_ | refine ea_cons ?_ ?_ | refine et_test ?_ | refine et_B ?_ | refine ed_cb (ea_cons ?_ ea_nil) cd_int)))
section
variable {K : PySem.W.Frag} {B : Base} {P : Po} {a : Ad}
theorem cut_ints (l : List Int) (i : Int) : (PyData.int 1 :: (l.map PyData.int)) ++ [PyData.int i] = PyData.int 1 :: (l ++ [i]).map PyData.int := by simp
abbrev rtDraws : PyData → Prop := fun d => ∃ l : List Int, d = .list (.int 1 :: l.map PyData.int) ∧ l.length ≤ 5000
abbrev jDraws (ns : List Int) (n : Nat) : En → Prop := fun δ' => ∃ (l : List Int) (s2 s3 s4 s5 : Sl), l.length ≤ n ∧ δ' = [.fz ns, .ow (.int 1 :: l.map PyData.int), s2, s3, s4, s5]
theorem sd_draws {ns : List Int} (hn : ns.length ≤ 63) : SD K B (t_law_draws K a) [.fz ns, .no, .no, .no, .no, .no] ⟨fun _ => False, rtDraws, fun _ => False, fun _ => False⟩ := by
  refine sd_cons (sd_ownd (el_lst (ds := [.int 1]) (by walk_at "ed") (by decide)) ?_)
  refine sd_mid (jDraws ns 3780) (sd_ford (fun i δ' => jDraws ns (60 * i) δ' ∧ i ≤ 63) (wd_rng1 (n := if (ns.length : Int) < 63 then (ns.length : Int) else 63) (ea_cons (ed_cb (ea_cons ed_int (ea_cons (ed_lenFz rfl) ea_nil)) cd_min2) ea_nil) (by split <;> omega) (by split <;> omega)) ⟨⟨[], .no, .no, .no, .no, by simp, rfl⟩, by omega⟩ ?_ ?_) ?_
  · rintro i d δ' hi ⟨⟨l, s2, s3, s4, s5, hl, rfl⟩, _⟩
    have him : i < (if (ns.length : Int) < 63 then (ns.length : Int) else 63).toNat := by
      have := (List.getElem?_eq_some_iff.mp hi).1
      rw [rngD_len] at this
      exact this
    rw [rngD_get him] at hi
    cases hi
    have hi2 : i < ns.length := by split at him <;> omega
    have hi3 : i < 63 := by omega
    refine ⟨_, _, gd_name, ?_⟩
    refine sd_cons (sd_asgd (ed_cb (ea_cons (ed_ixFz rfl ((ed_var rfl).is (congrArg PyData.int (Int.zero_add _))) (List.getElem?_eq_getElem hi2)) ea_nil) cd_int) ?_)
    refine sd_mid (fun δ' => ∃ c : Int, δ' = [.fz ns, .ow (.int 1 :: l.map PyData.int), .sh (.int (0 + (i : Int))), .sh (.int c), s4, s5]) (sd_ifd (et_test (ed_opb (ed_var rfl) ed_int)) (fun _ => sd_asgd (ed_opi ed_int (ed_var rfl)) ⟨_, rfl⟩) (fun _ => sd_next ⟨_, rfl⟩)) ?_
    rintro _ ⟨c, rfl⟩
    refine sd_ifd (et_test (ed_opb (ed_var rfl) (ed_opc ed_int ed_int ⟨by decide, by decide, by decide⟩))) (fun _ => ?_) (fun _ => ?_)
    · refine sd_ford (fun k δ' => (∃ (l' : List Int) (c : Int) (s4 : Sl), l'.length ≤ 60 * i + k ∧ δ' = [.fz ns, .ow (.int 1 :: l'.map PyData.int), .sh (.int (0 + (i : Int))), .sh (.int c), s4, s5]) ∧ k ≤ 60) (wd_rng1 (n := 60) (ea_cons ed_int ea_nil) (by omega) (by omega)) ⟨⟨l, c, s4, by omega, rfl⟩, by omega⟩ ?_ ?_
      · rintro k d δ' hk ⟨⟨l', c', s4', hl', rfl⟩, _⟩
        have hk2 : k < 60 := by
          have := (List.getElem?_eq_some_iff.mp hk).1
          rw [rngD_len] at this
          exact this
        refine ⟨_, _, gd_name, ?_⟩
        refine sd_ifd (et_test (ed_opb (ed_var rfl) ed_int)) (fun _ => ?_) (fun _ => sd_next ⟨⟨l', c', _, by omega, rfl⟩, by omega⟩)
        refine sd_cons (sd_app (ds := .int 1 :: l'.map PyData.int) rfl (ed_opc (ed_cb (ea_cons (ed_var rfl) ea_nil) cd_int) ed_int (by show (0 : Int) < 24; decide)) (by rw [List.length_cons, List.length_map]; omega) ?_)
        rintro _ rfl
        rw [cut_ints]
        exact sd_asgd (ed_opc (ed_var rfl) ed_int ⟨by decide, by decide⟩) ⟨⟨_, _, _, by rw [List.length_append, List.length_singleton]; omega, rfl⟩, by omega⟩
      · rintro _ ⟨⟨l', c', s4', hl', rfl⟩, _⟩
        rw [rngD_len] at hl'
        exact ⟨⟨l', _, _, _, _, (by have : (60 : Int).toNat = 60 := rfl; omega), rfl⟩, by omega⟩
    · refine sd_cons (sd_asgd (d := .int ((c * 69069 + (0 + (i : Int)) * 362437 + 12345) % 4294967291)) (by walk_at "ed"; all_goals first | exact .inr ⟨by decide, by decide⟩ | (show (0 : Int) < 4294967291; decide)) ?_)
      refine sd_ford (fun k δ' => (∃ (l' : List Int) (z : Int) (s4 : Sl), l'.length ≤ 60 * i + k ∧ 0 ≤ z ∧ z < 4294967291 ∧ δ' = [.fz ns, .ow (.int 1 :: l'.map PyData.int), .sh (.int (0 + (i : Int))), .sh (.int c), s4, .sh (.int z)]) ∧ k ≤ 5) (wd_rng1 (n := 5) (ea_cons ed_int ea_nil) (by omega) (by omega)) ⟨⟨l, _, s4, by omega, Int.emod_nonneg _ (by decide), Int.emod_lt_of_pos _ (by decide), rfl⟩, by omega⟩ ?_ ?_
      · rintro k d δ' hk ⟨⟨l', z, s4', hl', hz1, hz2, rfl⟩, _⟩
        have hk2 : k < 5 := by
          have := (List.getElem?_eq_some_iff.mp hk).1
          rw [rngD_len] at this
          exact this
        rw [show (Int.toNat 5) = 5 from rfl, rngD_get hk2] at hk
        cases hk
        refine ⟨_, _, gd_name, ?_⟩
        refine sd_cons (sd_asgd (d := .int ((z * z + (0 + (k : Int)) * 1013904 + (0 + (i : Int)) * 31 + 7) % 4294967291)) (by walk_at "ed"; all_goals first | exact .inr ⟨by decide, by decide⟩ | (show (0 : Int) < 4294967291; decide) | exact .inl ⟨by omega, by omega⟩) ?_)
        refine sd_app (ds := .int 1 :: l'.map PyData.int) rfl (ed_opc (ed_var rfl) ed_int ⟨by decide, by decide⟩) (by rw [List.length_cons, List.length_map]; omega) ?_
        rintro _ rfl
        rw [cut_ints]
        exact ⟨⟨_, _, _, by rw [List.length_append, List.length_singleton]; omega, Int.emod_nonneg _ (by decide), Int.emod_lt_of_pos _ (by decide), rfl⟩, by omega⟩
      · rintro _ ⟨⟨l', z, s4', hl', _, _, rfl⟩, _⟩
        rw [rngD_len] at hl'
        exact ⟨⟨l', _, _, _, _, (by have : (5 : Int).toNat = 5 := rfl; omega), rfl⟩, by omega⟩
  · rintro _ ⟨⟨l, s2, s3, s4, s5, hl, rfl⟩, h63⟩
    exact ⟨l, s2, s3, s4, s5, by omega, rfl⟩
  · rintro _ ⟨l, s2, s3, s4, s5, hl, rfl⟩
    refine sd_freeze 1 rfl ?_
    exact sd_retd (ed_var rfl) ⟨l, rfl, by omega⟩
end
section
variable {K : PySem.W.Frag} {B : Base} {P : Po} {δ : En} {te ta tb : TE} {X : XK}
abbrev isI (p : Int → Prop) : PyData → Prop := fun d => ∃ i, p i ∧ d = .int i
theorem ed_take {i : Nat} {m : Int} (hi : δ[i]? = some .dr) (h : ED K B te δ (· = .int m)) (hm : 0 < m) : ED K B (tCall (SpTake K) [] X (tCons (tVar i) (tCons te tNil))) δ (isI fun r => 0 ≤ r ∧ r < m) :=
  (ed_callDd hi (ea_cons h ea_nil) ⟨m, rfl, hm⟩).imp fun d p => by
    obtain ⟨r, e, h1, h2⟩ := p m rfl
    exact ⟨r, ⟨h1, h2⟩, e⟩
theorem toI {i : Int} (h : ED K B te δ (· = .int i)) : ED K B te δ (isI (· = i)) := h.imp fun d e => ⟨i, rfl, e⟩
theorem ed_opiP {p q : Int → Prop} {f : Int → Int → Int} (ha : ED K B ta δ (isI p)) (hb : ED K B tb δ (isI q)) : ED K B (tOp (rI0 fun i j => .int (f i j)) ta tb) δ (isI fun k => ∃ i j, p i ∧ q j ∧ k = f i j) :=
  ed_op ha hb fun a b ⟨i, h1, e1⟩ ⟨j, h2, e2⟩ => by
    subst e1; subst e2
    exact fun B G H x y I rx ry Q k => rd_I0i B G H x y I rx ry Q fun z d G' H' e => k z d G' H' ⟨_, ⟨i, j, h1, h2, rfl⟩, e⟩
theorem et_eqP {p q : Int → Prop} (ha : ED K B ta δ (isI p)) (hb : ED K B tb δ (isI q)) : ET K B (tTest (tOp rEq ta tb)) δ (fun b => ∃ i j, p i ∧ q j ∧ b = decide (i = j)) :=
  et_testP (ed_op ha hb fun a b ⟨i, h1, e1⟩ ⟨j, h2, e2⟩ => by
    subst e1; subst e2
    exact fun B G H x y I rx ry Q k => rd_eq (a := .int i) (b := .int j) rfl B G H x y I rx ry Q fun z d G' H' e => k z d G' H' ⟨_, ⟨i, j, h1, h2, rfl⟩, e⟩)
theorem ed_ixP {ds : List PyData} {p : Int → Prop} (h : ED K B ta δ (· = .list ds)) (hj : ED K B tb δ (isI p)) (hp : ∀ i, p i → 0 ≤ i ∧ i < ds.length) : ED K B (tOp (rIxL K) ta tb) δ (fun d => ∃ i, p i ∧ ds[i.toNat]? = some d) :=
  ed_op h hj fun a b e1 ⟨j, h2, e2⟩ => by
    subst e1; subst e2
    obtain ⟨h0, h1⟩ := hp j h2
    obtain ⟨n, rfl⟩ : ∃ n : Nat, j = (n : Int) := ⟨j.toNat, by omega⟩
    have hl : n < ds.length := by omega
    exact fun B G H x y I rx ry Q k => rd_ixL (d := ds[n]) (atI_nat (List.getElem?_eq_getElem hl)) B G H x y I rx ry Q fun z d G' H' e => k z d G' H' ⟨n, h2, by rw [e, Int.toNat_natCast, List.getElem?_eq_getElem hl]⟩
theorem ed_ixd {ds : List PyData} {j : Nat} {d : PyData} (h : ED K B ta δ (· = .list ds)) (hj : ED K B tb δ (· = .int (j : Int))) (hd : ds[j]? = some d) : ED K B (tOp (rIxL K) ta tb) δ (· = d) := ed_opd h hj (rd_ixL (atI_nat hd))
end
theorem _root_.DL.InR.nil {n : Int} : InR n [] := fun p h => nomatch h
theorem _root_.DL.InR.app {n : Int} {a b : List (Int × Int)} (h : InR n a) (k : InR n b) : InR n (a ++ b) := fun p q => (List.mem_append.mp q).elim (h p) (k p)
theorem eTs_one (a : List (Int × Int)) (p q : Int) : (a.map eP) ++ [.tuple [.int p, .int q]] = (a ++ [(p, q)]).map eP := by rw [List.map_append]; rfl
section
variable {K : PySem.W.Frag} {B : Base} {X : XK}
theorem w_free {a : Ad} {n m : Int} {P : List PyData → Prop} (h0 : 0 < n) (h1 : 0 ≤ m) (h2 : m ≤ 1000) (pr : ∀ ts : List (Int × Int), InR n ts → (ts.length : Int) = m → P (ts.map eP)) : W_law_free_ties K a [.int n, .int m] P := fun B => by
  refine sd_cons (sd_ownd (el_lst ea_nil (by decide)) ?_)
  refine sd_rng1 (n := m) (fun i δ' => ∃ (ts : List (Int × Int)) (a b : Sl), InR n ts ∧ ts.length = i ∧ (i : Int) ≤ m ∧ δ' = [.dr, .sh (.int n), .sh (.int m), .ow (ts.map eP), a, b]) (ea_cons (ed_var rfl) ea_nil) (by omega) ⟨[], .no, .no, InR.nil, rfl, h1, rfl⟩ ?_ ?_
  · rintro i _ hi ⟨ts, a, b, h3, h4, _, rfl⟩
    refine sd_cons (sd_asg (ed_take rfl (ed_var rfl) h0) ?_)
    rintro _ ⟨p, ⟨p0, p1⟩, rfl⟩
    refine sd_app (ds := ts.map eP) rfl (ed_tupP (ea_consP (ed_var rfl) (ea_consP (ed_take rfl (ed_var rfl) h0) ea_nil)) ?_) (by rw [List.length_map]; omega) ?_
    · rintro _ ⟨x, xs, rfl, ⟨y, ys, ⟨q, _, rfl⟩, rfl, rfl⟩, rfl⟩
      show 2 ≤ 100000
      omega
    · rintro _ ⟨_, ⟨x, xs, rfl, ⟨y, ys, ⟨q, ⟨q0, q1⟩, rfl⟩, rfl, rfl⟩, rfl⟩, rfl⟩
      rw [eTs_one]
      exact ⟨_, _, _, h3.app (InR.one ⟨p0, p1, q0, q1⟩), by rw [List.length_append, h4]; rfl, by omega, rfl⟩
  · rintro _ ⟨ts, a, b, h3, h4, h5, rfl⟩
    exact ⟨ts.map eP, rfl, pr ts h3 (by omega)⟩
theorem el_free {a : Ad} {δ : En} {ta te : TE} {i : Nat} {n : Int} {M : Nat} (hi : δ[i]? = some .dr) (ha : ED K B ta δ (· = .int n)) (hn : 0 < n) (he : ED K B te δ (isI fun m => 0 ≤ m ∧ m < (M : Int))) (hM : M ≤ 1000) :
    EL K B (tCall (SpWDL K 2 (W_law_free_ties K a)) [] X (tCons (tVar i) (tCons ta (tCons te tNil)))) δ (fun es => ∃ ts : List (Int × Int), (InR n ts ∧ ts.length ≤ M) ∧ es = ts.map eP) :=
  el_cDL hi (ea_consP ha (ea_consP he ea_nil)) (by
    rintro _ ⟨x, xs, rfl, ⟨y, ys, ⟨m, ⟨m0, m1⟩, rfl⟩, rfl, rfl⟩, rfl⟩
    exact ⟨rfl, w_free hn m0 (by omega) fun ts h2 h3 => ⟨ts, ⟨h2, by omega⟩, rfl⟩⟩)
end
section
variable {K : PySem.W.Frag} {B : Base} {X : XK} {a : Ad}
theorem toL {δ : En} {te : TE} {ds : List PyData} (h : ED K B te δ (· = .list ds)) : ED K B te δ (fun d => ∃ es, es = ds ∧ d = .list es) := h.imp fun d e => ⟨ds, rfl, e⟩
def eN (n : Int) (ts : List (Int × Int)) : PyData := .list [.int n, eTs ts]
def menu : List (Int × List (Int × Int)) := [(3, [(0, 1), (1, 2), (0, 2)]), (5, [(0, 1), (0, 2), (1, 3), (2, 3), (3, 4)]), (4, [(0, 1), (1, 2), (0, 2), (0, 3), (1, 3), (2, 3)]), (5, [(0, 1), (1, 2), (0, 2), (2, 3), (3, 4), (2, 4)]), (4, [(0, 3), (1, 3), (2, 3)]), (4, [(0, 1), (1, 2), (2, 3), (0, 3)])]
instance (n : Int) (ts : List (Int × Int)) : Decidable (InR n ts) := by unfold InR; infer_instance
theorem menu_ok : ∀ x ∈ menu, 1 ≤ x.1 ∧ x.1 ≤ 6 ∧ InR x.1 x.2 ∧ x.2.length ≤ 6 := by decide
local macro_rules | `(tactic| walk_at "edl") => `(tactic| (repeat' (first
  | exact ed_int | exact ea_nil | refine ea_cons ?_ ?_ | refine ed_tup ?_ (Nat.le_of_ble_eq_true rfl) | refine EL.edd ?_ | refine el_lst ?_ (Nat.le_of_ble_eq_true rfl))))
theorem w_told {P : Pd} (pr : ∀ (n : Int) (ts : List (Int × Int)), 1 ≤ n → n ≤ 6 → InR n ts → ts.length ≤ 6 → P (eN n ts)) : W_law_told_net K a [] P := fun B => by
  refine sd_cons (sd_ownd (ds := (menu.take 2).map fun x => eN x.1 x.2) (el_lst (by walk_at "edl") (Nat.le_of_ble_eq_true rfl)) ?_)
  refine sd_cons (sd_app (Pd := (· = eN 4 [(0, 1), (1, 2), (0, 2), (0, 3), (1, 3), (2, 3)])) rfl (by walk_at "edl") (by decide) ?_)
  rintro _ rfl
  refine sd_cons (sd_app (Pd := (· = eN 5 [(0, 1), (1, 2), (0, 2), (2, 3), (3, 4), (2, 4)])) rfl (by walk_at "edl") (by decide) ?_)
  rintro _ rfl
  refine sd_cons (sd_app (Pd := (· = eN 4 [(0, 3), (1, 3), (2, 3)])) rfl (by walk_at "edl") (by decide) ?_)
  rintro _ rfl
  refine sd_cons (sd_app (Pd := (· = eN 4 [(0, 1), (1, 2), (2, 3), (0, 3)])) rfl (by walk_at "edl") (by decide) ?_)
  rintro _ rfl
  refine sd_freeze (ds := menu.map fun x => eN x.1 x.2) 1 rfl ?_
  refine sd_ret (ed_ixP (ds := menu.map fun x => eN x.1 x.2) (ed_var rfl) (ed_take rfl ed_int (by decide)) fun i h => ⟨h.1, h.2⟩) ?_
  rintro d ⟨i, ⟨h0, h1⟩, hd⟩
  obtain ⟨x, hx, rfl⟩ := List.mem_map.mp (List.mem_of_getElem? hd)
  obtain ⟨q1, q2, q3, q4⟩ := menu_ok x hx
  exact pr x.1 x.2 q1 q2 q3 q4
end
section
variable {K : PySem.W.Frag} {B : Base} {X : XK} {a : Ad}
theorem ed_fst {p : Int × Int} {δ : En} {te : TE} (h : ED K B te δ (· = eP p)) : ED K B (tOp (rIxT K) te (tC (.int 0))) δ (· = .int p.1) := ed_ixt (j := 0) h ed_int rfl
theorem ed_snd {p : Int × Int} {δ : En} {te : TE} (h : ED K B te δ (· = eP p)) : ED K B (tOp (rIxT K) te (tC (.int 1))) δ (· = .int p.2) := ed_ixt (j := 1) h ed_int rfl
end
theorem ints_of {p : Int → Prop} : ∀ (es : List PyData), (∀ e ∈ es, isI p e) → ∃ us : List Int, es = us.map PyData.int ∧ ∀ u ∈ us, p u
  | [], _ => ⟨[], rfl, fun u h => nomatch h⟩
  | e :: es, h => by
    obtain ⟨i, hi, rfl⟩ := h e List.mem_cons_self
    obtain ⟨us, h1, h2⟩ := ints_of es fun x hx => h x (List.mem_cons_of_mem _ hx)
    exact ⟨i :: us, by rw [h1]; rfl, fun u hu => by
      rcases List.mem_cons.mp hu with rfl | hu
      · exact hi
      · exact h2 u hu⟩
section
variable {K : PySem.W.Frag} {B : Base} {X : XK} {a : Ad}
end
section
variable {K : PySem.W.Frag} {B : Base} {X : XK} {a : Ad}
theorem sd_ifP {δ : En} {P : Po} {tt : TT} {t u : TS} {Pt : Bool → Prop} (h : ET K B tt δ Pt) (k1 : Pt true → SD K B t δ P) (k2 : Pt false → SD K B u δ P) : SD K B (tIfS tt t u) δ P := sd_if h fun b hb => by
  cases b with
  | true => exact k1 hb
  | false => exact k2 hb
theorem take_min {α : Type} (l : List α) (k : Nat) : l.take (min k l.length) = l.take k := by
  by_cases h : k ≤ l.length
  · rw [Nat.min_eq_left h]
  · rw [Nat.min_eq_right (by omega), List.take_length, List.take_of_length_le (by omega)]
theorem cut_to (l : List PyData) (k : Int) (hk : 0 ≤ k) : DL.cutD l none (some k) = l.take k.toNat := by
  unfold DL.cutD
  obtain ⟨n, rfl⟩ : ∃ n : Nat, k = (n : Int) := ⟨k.toNat, by omega⟩
  rw [HT.sIx_none, HT.sIx_nat, List.drop_zero, Nat.sub_zero, take_min, Int.toNat_natCast]
def sizes : List Int := [3, 2, 4, 5, 3, 4, 5, 4, 6, 3, 4, 5]
abbrev jNet (m w : Int) (s5 s6 s7 s8 : Sl) : En → Prop := fun δ' => ∃ (n : Int) (ts : List (Int × Int)) (s5 s6 s7 s8 : Sl), 1 ≤ n ∧ n ≤ 6 ∧ InR n ts ∧ ts.length ≤ 40 ∧ δ' = [.dr, .sh (.int m), .sh (.int w), .sh (.int n), .ow (ts.map eP), s5, s6, s7, s8, .no, .no, .no, .no]
theorem el_more {δ : En} {te tb : TE} {n : Int} {ts : List (Int × Int)} {M : Nat} (h : ED K B te δ (· = eTs ts)) (hb : EL K B tb δ (fun es => ∃ us : List (Int × Int), (InR n us ∧ us.length ≤ M) ∧ es = us.map eP)) (ht : InR n ts) (hl : ts.length ≤ 1000) (hM : M ≤ 1000) :
    EL K B (tOp rCat te tb) δ (fun es => ∃ us : List (Int × Int), (InR n us ∧ us.length ≤ ts.length + M) ∧ es = us.map eP) :=
  (el_cat (Pa := (· = ts.map eP)) (toL h) (hb.ed) (by
    rintro x y rfl ⟨us, ⟨_, h2⟩, rfl⟩
    rw [List.length_map, List.length_map]
    omega)).imp (by
    rintro es ⟨x, y, rfl, ⟨us, ⟨h1, h2⟩, rfl⟩, rfl⟩
    exact ⟨ts ++ us, ⟨ht.app h1, by rw [List.length_append]; omega⟩, by rw [List.map_append]⟩)
theorem w_net {P : Pd} {m : Int} (m0 : 0 ≤ m) (m1 : m ≤ 1000) (pr : ∀ (n : Int) (ts : List (Int × Int)), 1 ≤ n → n ≤ 6 → InR n ts → (ts.length : Int) ≤ m → P (eN n ts)) : W_law_net K a [.int m] P := fun B => by
  refine sd_cons (sd_asg (ed_take rfl ed_int (by decide)) ?_)
  rintro _ ⟨w, ⟨w0, w1⟩, rfl⟩
  refine sd_cons (sd_asg (ED.imp (ed_ixP (ds := sizes.map PyData.int) (EL.edd (el_lst (by repeat' (first | exact ed_int | exact ea_nil | refine ea_cons ?_ ?_)) (Nat.le_of_ble_eq_true rfl))) (ed_take rfl ed_int (by decide)) fun i h => ⟨h.1, h.2⟩) (P' := isI fun n => 1 ≤ n ∧ n ≤ 6) ?_) ?_)
  · rintro d ⟨i, _, hd⟩
    obtain ⟨x, hx, rfl⟩ := List.mem_map.mp (List.mem_of_getElem? hd)
    have : ∀ x ∈ sizes, 1 ≤ x ∧ x ≤ 6 := by decide
    exact ⟨x, this x hx, rfl⟩
  rintro _ ⟨n, ⟨n1, n6⟩, rfl⟩
  refine sd_mid (jNet m w .no .no .no .no) (sd_ifd (et_test (ed_opb (ed_var rfl) ed_int)) (fun _ => ?_) (fun _ => sd_ifd (et_test (ed_opb (ed_var rfl) ed_int)) (fun _ => ?_) (fun _ => sd_ifd (et_test (ed_opd (ed_var rfl) ed_int (rd_eq rfl))) (fun _ => ?_) (fun _ => ?_)))) ?_
  · -- a tree and more
    refine sd_cons (sd_ownd (el_lst ea_nil (by decide)) ?_)
    refine sd_mid (fun δ' => ∃ (ts : List (Int × Int)) (s5 s6 : Sl), InR n ts ∧ ts.length ≤ 6 ∧ δ' = [.dr, .sh (.int m), .sh (.int w), .sh (.int n), .ow (ts.map eP), s5, s6, .no, .no, .no, .no, .no, .no])
      (sd_rng2 (a := 1) (n := n) (fun i δ' => ∃ (ts : List (Int × Int)) (s5 s6 : Sl), InR n ts ∧ ts.length = i ∧ (i : Int) ≤ n ∧ δ' = [.dr, .sh (.int m), .sh (.int w), .sh (.int n), .ow (ts.map eP), s5, s6, .no, .no, .no, .no, .no, .no]) (ea_cons ed_int (ea_cons (ed_var rfl) ea_nil)) (by omega) ⟨[], .no, .no, InR.nil, rfl, by omega, rfl⟩ ?_ ?_) ?_
    · rintro i _ hi ⟨ts, s5, s6, h3, h4, _, rfl⟩
      refine sd_cons (sd_asg (ed_take rfl (ed_var rfl) (by omega)) ?_)
      rintro _ ⟨o, ⟨o0, o1⟩, rfl⟩
      refine sd_if (et_eqP (ed_take rfl ed_int (by decide)) (toI ed_int)) (fun b _ => ?_)
      cases b with
      | true =>
        refine sd_app (ds := ts.map eP) (Pd := (· = eP (1 + (i : Int), o))) rfl (ed_tup (ea_cons (ed_var rfl) (ea_cons (ed_var rfl) ea_nil)) (Nat.le_of_ble_eq_true rfl)) (by rw [List.length_map]; omega) ?_
        rintro _ rfl
        exact ⟨ts ++ [(1 + (i : Int), o)], _, _, h3.app (InR.one ⟨by show 0 ≤ 1 + (i : Int); omega, by show 1 + (i : Int) < n; omega, by show 0 ≤ o; omega, by show o < n; omega⟩), by rw [List.length_append, h4]; rfl, by omega, by rw [List.map_append]; rfl⟩
      | false =>
        refine sd_app (ds := ts.map eP) (Pd := (· = eP (o, 1 + (i : Int)))) rfl (ed_tup (ea_cons (ed_var rfl) (ea_cons (ed_var rfl) ea_nil)) (Nat.le_of_ble_eq_true rfl)) (by rw [List.length_map]; omega) ?_
        rintro _ rfl
        exact ⟨ts ++ [(o, 1 + (i : Int))], _, _, h3.app (InR.one ⟨by show 0 ≤ o; omega, by show o < n; omega, by show 0 ≤ 1 + (i : Int); omega, by show 1 + (i : Int) < n; omega⟩), by rw [List.length_append, h4]; rfl, by omega, by rw [List.map_append]; rfl⟩
    · rintro _ ⟨ts, s5, s6, h3, h4, h5, rfl⟩
      exact ⟨ts, s5, s6, h3, by omega, rfl⟩
    · rintro _ ⟨ts, s5, s6, h3, h4, rfl⟩
      refine sd_freeze 4 rfl (sd_own (el_more (te := tVar 4) (ed_var rfl) (el_free (M := 6) rfl (ed_var rfl) (by omega) (ed_take rfl ed_int (by decide)) (by decide)) h3 (by omega) (by decide)) ?_)
      rintro _ ⟨us, ⟨h5, h6⟩, rfl⟩
      exact ⟨n, us, s5, s6, .no, .no, n1, n6, h5, by omega, rfl⟩
  · -- a told net and more
    refine sd_cons (sd_asg (Pd := fun d => ∃ (n : Int) (ts : List (Int × Int)), d = eN n ts ∧ 1 ≤ n ∧ n ≤ 6 ∧ InR n ts ∧ ts.length ≤ 6) (ed_cDd (ds := []) rfl ea_nil (w_told fun n ts q1 q2 q3 q4 => ⟨n, ts, rfl, q1, q2, q3, q4⟩)) ?_)
    rintro _ ⟨n', ts, rfl, q1, q2, q3, q4⟩
    refine sd_cons (sd_asgd (ed_ixd (ds := [.int n', eTs ts]) (j := 0) (ed_var rfl) ed_int rfl) ?_)
    refine sd_own (el_more (ts := ts) (EL.edd (el_cb (ea_cons (ed_ixd (ds := [.int n', eTs ts]) (j := 1) (ed_var rfl) ed_int rfl) ea_nil) cl_listL)) (el_free (M := 2) rfl (ed_var rfl) (by omega) (ed_take rfl ed_int (by decide)) (by decide)) q3 (by omega) (by decide)) ?_
    rintro _ ⟨us, ⟨h5, h6⟩, rfl⟩
    exact ⟨n', us, _, _, _, _, q1, q2, h5, by omega, rfl⟩
  · -- a ring and more
    refine sd_cons (sd_asg (ed_opiP (toI ed_int) (ed_take rfl ed_int (by decide))) ?_)
    rintro _ ⟨_, ⟨_, r, rfl, ⟨r0, r1⟩, rfl⟩, rfl⟩
    refine sd_cons (sd_asg (ed_opiP (toI (ed_var rfl)) (ed_take rfl ed_int (by decide))) ?_)
    rintro _ ⟨_, ⟨_, x, rfl, ⟨x0, x1⟩, rfl⟩, rfl⟩
    refine sd_cons (sd_own (Pl := fun es => ∃ ts : List (Int × Int), es = ts.map eP ∧ InR (3 + r + x) ts ∧ ts.length ≤ 6) (EL.imp (el_mapr (lo := 0) (n := (3 + r).toNat) (fun k => eP ((0 : Int) + (k : Int), ((0 : Int) + (k : Int) + 1) % (3 + r))) (wd_rng1 (n := 3 + r) (ea_cons (ed_var rfl) ea_nil) (by omega) (by omega)) (fun k hk => ⟨_, _, gd_name, fun _ h => h, ed_tup (ea_cons (ed_var rfl) (ea_cons (ed_opc (ed_cb (ea_cons (ed_opi (ed_var rfl) ed_int) ea_nil) cd_int) (ed_var rfl) (by show 0 < 3 + r; omega)) ea_nil)) (Nat.le_of_ble_eq_true rfl)⟩) (by omega)) ?_) ?_)
    · rintro es rfl
      refine ⟨(List.range (3 + r).toNat).map fun k : Nat => ((0 : Int) + (k : Int), ((0 : Int) + (k : Int) + 1) % (3 + r)), by rw [List.map_map]; rfl, fun p hp => ?_, by rw [List.length_map, List.length_range]; omega⟩
      obtain ⟨k, hk, rfl⟩ := List.mem_map.mp hp
      have hk := List.mem_range.mp hk
      have a1 := Int.emod_nonneg ((0 : Int) + (k : Int) + 1) (show (3 + r) ≠ 0 by omega)
      have a2 := Int.emod_lt_of_pos ((0 : Int) + (k : Int) + 1) (show 0 < 3 + r by omega)
      exact ⟨by show 0 ≤ (0 : Int) + (k : Int); omega, by show (0 : Int) + (k : Int) < _; omega, a1, by show _ < _; omega⟩
    rintro _ ⟨ts, rfl, q3, q4⟩
    refine sd_freeze 4 rfl (sd_own (el_more (te := tVar 4) (ed_var rfl) (el_free (M := 3) rfl (ed_var rfl) (by omega) (ed_take rfl ed_int (by decide)) (by decide)) q3 (by omega) (by decide)) ?_)
    rintro _ ⟨us, ⟨h5, h6⟩, rfl⟩
    exact ⟨_, us, _, _, _, _, by omega, by omega, h5, by omega, rfl⟩
  · -- any ties
    refine sd_mid (fun δ' => ∃ n : Int, 1 ≤ n ∧ n ≤ 6 ∧ δ' = [.dr, .sh (.int m), .sh (.int w), .sh (.int n), .no, .no, .no, .no, .no, .no, .no, .no, .no]) (sd_if (et_eqP (ed_take rfl ed_int (by decide)) (toI ed_int)) (fun b _ => ?_)) ?_
    · cases b with
      | true => exact sd_asgd ed_int ⟨1, by decide, by decide, rfl⟩
      | false => exact sd_next ⟨n, n1, n6, rfl⟩
    rintro _ ⟨n', q1, q2, rfl⟩
    refine sd_own (el_free (M := 10) rfl (ed_var rfl) (by omega) (ed_take rfl ed_int (by decide)) (by decide)) ?_
    rintro _ ⟨us, ⟨h5, h6⟩, rfl⟩
    exact ⟨n', us, _, _, _, _, q1, q2, h5, by omega, rfl⟩
  -- one tie doubled, all turned
  rintro _ ⟨n, ts, s5, s6, s7, s8, n1, n6, ht, hl, rfl⟩
  refine sd_mid (fun δ' => ∃ (ts : List (Int × Int)) (s9 : Sl), InR n ts ∧ ts.length ≤ 41 ∧ δ' = [.dr, .sh (.int m), .sh (.int w), .sh (.int n), .ow (ts.map eP), s5, s6, s7, s8, s9, .no, .no, .no]) (sd_ifP (Pt := fun b => b = true → 0 < ts.length) ?_ (fun hb => ?_) (fun _ => sd_next ⟨ts, .no, ht, by omega, rfl⟩)) ?_
  · intro G H σ E Q q
    refine et_test (ed_opb (f := fun i j => decide (j < i)) (ed_lenOw (ds := ts.map eP) rfl) ed_int) G H σ E _ fun b G1 H1 e m1 => ?_
    subst e
    show (if decide ((0 : Int) < ((ts.map eP).length : Int)) = true then _ else _)
    by_cases c : (0 : Int) < ((ts.map eP).length : Int)
    · rw [if_pos (decide_eq_true c)]
      refine et_eqP (ed_take rfl ed_int (by decide)) (toI ed_int) G1 H1 σ (E.at m1) Q fun b' G2 H2 _ m2 => q b' G2 H2 (fun _ => by rw [List.length_map] at c; omega) (m1.trans m2 E.iv)
    · rw [if_neg (fun h => c (of_decide_eq_true h))]
      exact q false G1 H1 (fun h => by cases h) m1
  · · 
      have h0 := hb rfl
      refine sd_cons (sd_asg (Pd := fun d => ∃ p : Int × Int, InR n [p] ∧ d = eP p) (ed_ixOw (ds := ts.map eP) (Pi := isI fun r => 0 ≤ r ∧ r < ((ts.map eP).length : Int)) rfl (ed_take rfl (ed_lenOw (ds := ts.map eP) rfl) (by rw [List.length_map]; omega)) ?_) ?_)
      · rintro _ ⟨r, ⟨r0, r1⟩, rfl⟩
        obtain ⟨k, rfl⟩ : ∃ k : Nat, r = (k : Int) := ⟨r.toNat, by omega⟩
        rw [List.length_map] at r1
        have hk : k < ts.length := by omega
        exact ⟨k, eP ts[k], rfl, atI_nat (by rw [List.getElem?_map, List.getElem?_eq_getElem hk]; rfl), ts[k], fun q hq => by rw [List.mem_singleton.mp hq]; exact ht _ (List.getElem_mem hk), rfl⟩
      rintro _ ⟨p, hp, rfl⟩
      have hp := hp p List.mem_cons_self
      refine sd_app (ds := ts.map eP) (Pd := (· = eP (p.2, p.1))) rfl (ed_tup (ea_cons (ed_snd (ed_var rfl)) (ea_cons (ed_fst (ed_var rfl)) ea_nil)) (Nat.le_of_ble_eq_true rfl)) (by rw [List.length_map]; omega) ?_
      rintro _ rfl
      exact ⟨ts ++ [(p.2, p.1)], _, ht.app (InR.one ⟨hp.2.2.1, hp.2.2.2, hp.1, hp.2.1⟩), by rw [List.length_append, List.length_singleton]; omega, by rw [List.map_append]; rfl⟩
  rintro _ ⟨ts, s9, ht, hl, rfl⟩
  refine sd_cons (sd_asg (ed_take rfl (ed_var rfl) (by omega)) ?_)
  rintro _ ⟨r, ⟨r0, r1⟩, rfl⟩
  refine sd_freeze 4 rfl ?_
  refine sd_cons (sd_own (Pl := fun es => ∃ ts : List (Int × Int), es = ts.map eP ∧ InR n ts) (EL.imp (el_mapx ts eP eP_inj (fun p => eP ((p.1 + r) % n, (p.2 + r) % n)) (wd_list (ed_var rfl)) (fun p hp => ⟨_, _, gd_name, fun _ h => h, ed_tup (ea_cons (ed_opc (ed_cb (ea_cons (ed_opi (ed_fst (ed_var rfl)) (ed_var rfl)) ea_nil) cd_int) (ed_var rfl) (by show 0 < n; omega)) (ea_cons (ed_opc (ed_cb (ea_cons (ed_opi (ed_snd (ed_var rfl)) (ed_var rfl)) ea_nil) cd_int) (ed_var rfl) (by show 0 < n; omega)) ea_nil)) (Nat.le_of_ble_eq_true rfl)⟩) (by omega)) ?_) ?_)
  · rintro es rfl
    refine ⟨ts.map fun p => ((p.1 + r) % n, (p.2 + r) % n), by rw [List.map_map]; rfl, fun q hq => ?_⟩
    obtain ⟨p, _, rfl⟩ := List.mem_map.mp hq
    exact ⟨Int.emod_nonneg _ (by omega), Int.emod_lt_of_pos _ (by omega), Int.emod_nonneg _ (by omega), Int.emod_lt_of_pos _ (by omega)⟩
  rintro _ ⟨us, rfl, hu⟩
  refine sd_freeze 4 rfl ?_
  refine sd_ret (EL.ed (el_lstP (ea_consP (ed_var rfl) (ea_consP (EL.ed (el_sl (ds := us.map eP) (ed_var rfl) eo_none (eo_some (toI (ed_var rfl))))) ea_nil)) ?_)) ?_
  · rintro _ ⟨a, as, _, ⟨b, bs, _, rfl, rfl⟩, rfl⟩
    show 2 ≤ 100000
    omega
  · rintro _ ⟨_, ⟨_, _, rfl, ⟨_, _, ⟨_, ⟨lo, hi, rfl, ⟨k0, rfl, rfl⟩, rfl⟩, rfl⟩, rfl, rfl⟩, rfl⟩, rfl⟩
    have g := pr n (us.take k0.toNat) n1 n6 (fun p hp => hu p (List.mem_of_mem_take hp)) (by rw [List.length_take]; omega)
    rw [cut_to _ _ (by omega), ← List.map_take]
    exact g
end
end PL
namespace PL
variable [DL.Tb]
open PySem PySem.Spec PyProof.Rows L2 Evl DL
theorem CompR.sub {Pt : PyData → Bool → Prop} {Pe : PyData → PyData → Prop} {ds es : List PyData} (h : CompR Pt Pe ds es) (he : ∀ d e, Pe d e → e = d) : es.Sublist ds := by
  induction h with
  | nil => exact .slnil
  | skip h _ ih => exact List.Sublist.trans ih (List.sublist_append_left _ _)
  | take h _ p ih => rw [he _ _ p]; exact List.Sublist.append ih (List.Sublist.refl _)
theorem kn_one {two : Bool} : eqS (.str (kn two)) (.str "oneway") = !two := by
  cases two
  · show decide (("oneway" : Str) = "oneway") = true
    exact decide_eq_true rfl
  · show decide (("twoway" : Str) = "oneway") = false
    exact decide_eq_false (by decide +kernel)
section
variable {K : PySem.W.Frag} {B : Base} {X : XK} {a : Ad} {P : Pd} {two : Bool} {n m : Nat} {ts : List (Int × Int)} {us is l : List Int}
theorem ed_tie {δ : En} {te : TE} {i : Nat} {j : Nat} (hi : i < ts.length) (h : ED K B te δ (· = eTs ts)) (hj : ED K B (tVar j) δ (· = .int (i : Int))) : ED K B (tOp (rIxL K) te (tVar j)) δ (· = eP (ts.getD i (0, 0))) :=
  ed_ixd (ds := ts.map eP) h hj (by rw [List.getElem?_map, List.getD_eq_getElem?_getD, List.getElem?_eq_getElem hi]; rfl)
theorem z0 (i : Nat) : (0 : Int) + (i : Int) = (i : Int) := Int.zero_add _
theorem w_law_rest (hm : m ≤ 1000) (pr : P (eIs (restL m l))) : W_law_rest K a [.int (m : Int), eIs l] P := fun B => by
  refine sd_retd (d := eIs (restL m l)) (EL.edd (EL.imp (el_lcr (lo := 0) (n := m) (fun i => !decide ((i : Int) ∈ l)) (fun i => .int (i : Int)) (wd_rng1 (n := (m : Int)) (ea_cons (ed_var rfl) ea_nil) (by omega) (by omega)) (fun i hi => ⟨_, _, gd_name, fun _ h => h, et_test (ed_opd ((ed_var rfl).is (congrArg _ (z0 i))) (ed_var rfl) rd_inL), fun _ => (ed_var rfl).is (congrArg _ (z0 i))⟩) (by omega)) (fun es e => ?_))) pr
  rw [e]
  unfold restL
  rw [List.map_map]
  rfl
theorem w_law_kind (pr : ∀ two, P (.str (kn two))) : W_law_kind K a [] P := fun B =>
  sd_cons (sd_if (et_eqP (ed_take rfl ed_int (by decide)) (toI ed_int)) fun b _ => by
    cases b with
    | true => exact sd_retd ed_str (pr false)
    | false => exact sd_next (sd_retd ed_str (pr true)))
theorem w_law_built {n : Int} (T : Nk K a) (n1 : 1 ≤ n) (n2 : n ≤ 12) (hr : InR n ts) (hl : ts.length ≤ 40) (pr : P (eNet (cC a two) n ts)) : W_law_built K a [.str (kn two), .int n, eTs ts] P := fun B => by
  refine sd_cons (sd_ifd (x := !two) ((et_test (ed_opd (ed_var rfl) ed_str (rd_eq rfl))).is kn_one) (fun c => ?_) (fun c => sd_next ?_))
  · have ck : two = false := by simpa using c
    subst ck
    exact sd_retd (ed_make (ed_var rfl) (ed_var rfl) n1 n2 hr hl) pr
  · have ck : two = true := by simpa using c
    subst ck
    exact sd_retd (ed_make (ed_var rfl) (ed_var rfl) n1 n2 hr hl) pr
end
end PL
namespace PL
variable [DL.Tb]
open PySem PySem.Spec PyProof.Rows L2 Evl DL
def srt (l : List Int) : List Int := l.mergeSort fun a b => decide (a ≤ b)
theorem srt_perm (l : List Int) : (srt l).Perm l := List.mergeSort_perm l _
theorem srt_le (l : List Int) : (srt l).Pairwise (· ≤ ·) := by
  have h := List.pairwise_mergeSort (le := fun a b : Int => decide (a ≤ b)) (fun a b c h1 h2 => decide_eq_true (Int.le_trans (of_decide_eq_true h1) (of_decide_eq_true h2))) (fun a b => by
    rcases Int.le_total a b with h | h
    · rw [decide_eq_true h]; rfl
    · rw [decide_eq_true h, Bool.or_true]) l
  exact h.imp fun h => of_decide_eq_true h
theorem srt_eq {ms l : List Int} (hp : ms.Perm l) (hs : ms.Pairwise (· ≤ ·)) : ms = srt l :=
  List.Perm.eq_of_pairwise (fun a b _ _ h1 h2 => Int.le_antisymm h1 h2) hs (srt_le l) (hp.trans (srt_perm l).symm)
theorem mem_srt {l : List Int} {x : Int} : x ∈ srt l ↔ x ∈ l := (srt_perm l).mem_iff
structure Fit (S T : List Int) (i : Nat) (l : List Int) : Prop where
  nd : l.Nodup
  src : ∀ s ∈ S, s ∈ l
  rng : ∀ x ∈ l, x ∈ S ∨ (0 ≤ x ∧ x < (i : Int) ∧ x ∉ T)
theorem Fit.up {S T : List Int} {i : Nat} {l : List Int} (h : Fit S T i l) : Fit S T (i + 1) l := ⟨h.nd, h.src, fun x hx => (h.rng x hx).imp id fun ⟨a, b, c⟩ => ⟨a, by omega, c⟩⟩
section
variable {K : PySem.W.Frag} {B : Base} {X : XK} {a : Ad} {P : Pd} {two : Bool} {n m : Nat} {ts : List (Int × Int)} {us is l S T : List Int}
theorem fit_of {M : List Int} (hM : LotIn n M) (h1 : ∀ s ∈ S, s ∈ M) (h2 : ∀ x ∈ M, x ∉ T) : Fit S T n M := ⟨hM.1, h1, fun x hx => .inr ⟨(hM.2 x hx).1, (hM.2 x hx).2, h2 x hx⟩⟩
end
end PL
namespace PL
variable [DL.Tb]
open PySem PySem.Spec PyProof.Rows L2 Evl DL FL
section
variable {K : PySem.W.Frag} {a : Ad} {B : Base} {δ : En} {te ta tb tc : TE} {E : XK} {P : Pd} {R : XR} {C : Addr} {two : Bool} {n m : Nat} {ts : List (Int × Int)} {us l row S : List Int} {d dl dh dr x : PyData} {ds : List PyData}
theorem w_good_lot2 (hl : LotIn n l) (hn : n ≤ 12) (hdl : RowV (l.map PyData.int) d) (p : P (eU (srt l))) : W_good_lot K a [.int (n : Int), d] P R :=
  w_good_lot hl (by have := lot_len hl; omega) hdl fun ms h1 h2 => by rw [srt_eq h1 h2]; exact p
theorem ea_x {Pa : List PyData → Prop} {tr : TA} (h : ED K B te δ (fun _ => False)) : EA K B (tCons te tr) δ Pa := fun G H σ Ev Q q => h G H σ Ev _ fun v d G1 H1 pd m r => pd.elim
theorem ea_c {Pa : List PyData → Prop} {tr : TA} {Pd : PyData → Prop} (h : ED K B te δ Pd) (k : EA K B tr δ (fun _ => False)) : EA K B (tCons te tr) δ Pa := fun G H σ Ev Q q => h G H σ Ev _ fun v d G1 H1 pd m r => k G1 H1 σ (Ev.at m) _ fun vs es G2 H2 pe m2 r2 => pe.elim
end
end PL
namespace PL
variable [DL.Tb]
open PySem PySem.Spec PyProof.Rows L2 Evl DL FL
def keptRow (two : Bool) (ts : List (Int × Int)) (l row : List Int) : List Int := (List.range row.length).map fun t => if (inB l (ts.getD t (0, 0)) || gB two l (ts.getD t (0, 0))) = true then row.getD t 0 else 0
theorem keptRow_at {two : Bool} {ts : List (Int × Int)} {l row : List Int} {t : Nat} (h : t < row.length) : (keptRow two ts l row).getD t 0 = if (inB l (ts.getD t (0, 0)) || gB two l (ts.getD t (0, 0))) = true then row.getD t 0 else 0 := by
  unfold keptRow
  rw [List.getD_eq_getElem?_getD, List.getElem?_map, List.getElem?_range h]
  rfl
theorem su_eq_of_le {α : Type} {f g : α → Int} : ∀ {L : List α}, (∀ x ∈ L, f x ≤ g x) → su L f = su L g → ∀ x ∈ L, f x = g x
  | [], _, _, _, h => nomatch h
  | y :: L, hle, he, x, hx => by
    rw [su_cons, su_cons] at he
    have h1 := hle y List.mem_cons_self
    have h2 := su_le fun z hz => hle z (List.mem_cons_of_mem y hz)
    rcases List.mem_cons.mp hx with rfl | hx
    · omega
    · exact su_eq_of_le (fun z hz => hle z (List.mem_cons_of_mem y hz)) (by omega) x hx
theorem outs_term {N : Nt} {r : Nat → Int} (k : Ok N r) (X : Int → Bool) {t : Nat} (ht : t < N.m) : ((if X (N.a t) = true then N.row r t else 0) - (if X (N.b t) = true then N.row r t else 0)) ≤ gate N X t := by
  have h1 := k.nn (2 * t) (by omega)
  have h2 := k.nn (2 * t + 1) (by omega)
  have h3 := k.pair t ht
  unfold gate Nt.row
  unfold Nt.back at h3
  cases ha : X (N.a t) <;> cases hb : X (N.b t) <;> cases hw : N.two <;> simp only [hw] at h3 ⊢ <;> simp at h3 ⊢ <;> omega
theorem gates_full {N : Nt} {S T : Int → Bool} {r : Nat → Int} {L M : List Int} (F : Flow N S T r) (nl : L.Nodup) (hl : ∀ p, p ∈ L ↔ S p = true) (nm : M.Nodup) (hs : ∀ p, S p = true → p ∈ M) (ht : ∀ p ∈ M, T p = false) (e : su L (N.led r) = FL.cost N fun p => decide (p ∈ M)) {t : Nat} (h : t < N.m) :
    ((if decide (N.a t ∈ M) = true then N.row r t else 0) - (if decide (N.b t ∈ M) = true then N.row r t else 0)) = gate N (fun p => decide (p ∈ M)) t := by
  rw [← value_lot F nl nm hl hs ht, outs_led nm] at e
  unfold outs FL.cost at e
  exact su_eq_of_le (fun x hx => outs_term F.ok (fun p => decide (p ∈ M)) (List.mem_range.mp hx)) e t (List.mem_range.mpr h)
theorem filled {n : Nat} {two : Bool} {ts : List (Int × Int)} {us S l row : List Int} {r : Nat → Int} (hl : LotIn n l) (hS : LotIn n S) (hSl : ∀ s ∈ S, s ∈ l) (hu : us.length = ts.length) (nn : ∀ u ∈ us, 0 ≤ u) (hr : row.length = ts.length)
    (F : Flow (netN two ts us) (sb S) (sb (restL n l)) r) (kp : Kept (netN two ts us) (sb S) r) (hrow : ∀ t, t < ts.length → row.getD t 0 = (netN two ts us).row r t) (hv : su S ((netN two ts us).led r) = costL two ts us l) :
    (∀ t, t < ts.length → standB two ts us l (keptRow two ts l row) t = true) ∧ ∀ p ∈ l, badB ts (keptRow two ts l row) S p = false := by
  have sS : ∀ p, p ∈ S ↔ sb S p = true := fun p => ⟨fun h => decide_eq_true h, fun h => of_decide_eq_true h⟩
  have sT : ∀ p ∈ l, sb (restL n l) p = false := fun p hp => decide_eq_false fun z => (mem_restL.mp z).2 hp
  have full : ∀ t, t < ts.length → ((if decide ((ts.getD t (0, 0)).1 ∈ l) = true then row.getD t 0 else 0) - (if decide ((ts.getD t (0, 0)).2 ∈ l) = true then row.getD t 0 else 0)) = gate (netN two ts us) (fun p => decide (p ∈ l)) t := fun t ht => by
    have := gates_full F hS.1 sS hl.1 (fun p hp => hSl p ((sS p).mpr hp)) sT (by rw [hv, costL_N]) (t := t) ht
    rw [hrow t ht]
    exact this
  have gv : ∀ t, gate (netN two ts us) (fun p => decide (p ∈ l)) t = if gB two l (ts.getD t (0, 0)) = true then us.getD t 0 else 0 := fun t => by
    unfold gate gB netN
    cases two <;> simp only <;> by_cases h1 : (ts.getD t (0, 0)).1 ∈ l <;> by_cases h2 : (ts.getD t (0, 0)).2 ∈ l <;> simp [h1, h2]
  have cap : ∀ t, t < ts.length → loB two (us.getD t 0) ≤ row.getD t 0 ∧ row.getD t 0 ≤ us.getD t 0 := fun t ht => by
    have h1 := F.ok.nn (2 * t) (show 2 * t < 2 * ts.length by omega)
    have h2 := F.ok.nn (2 * t + 1) (show 2 * t + 1 < 2 * ts.length by omega)
    have h3 := F.ok.pair t ht
    rw [hrow t ht]
    unfold Nt.back at h3
    unfold Nt.row loB
    simp only [netN] at h3 ⊢
    cases two <;> simp at h3 ⊢ <;> omega
  have loop : ∀ t, t < ts.length → (ts.getD t (0, 0)).1 = (ts.getD t (0, 0)).2 → row.getD t 0 = 0 := fun t ht e => by
    rw [hrow t ht]
    have := kp.loop t ht e
    unfold Nt.row
    rw [this]
    omega
  -- where a tie touches the lot, the kept row is the row
  have same : ∀ t, t < ts.length → ((ts.getD t (0, 0)).1 ∈ l ∨ (ts.getD t (0, 0)).2 ∈ l) → (keptRow two ts l row).getD t 0 = row.getD t 0 := fun t ht h => by
    rw [keptRow_at (by omega)]
    by_cases c : (inB l (ts.getD t (0, 0)) || gB two l (ts.getD t (0, 0))) = true
    · rw [if_pos c]
    · rw [if_neg c]
      have f := full t ht
      rw [gv] at f
      clear full gv cap loop kp F hrow hv sT sS
      revert c f h
      generalize ts.getD t (0, 0) = p
      generalize row.getD t 0 = x
      generalize us.getD t 0 = u
      obtain ⟨y, z⟩ := p
      intro h c f
      unfold inB gB at c
      unfold gB at f
      cases two <;> by_cases h1 : y ∈ l <;> by_cases h2 : z ∈ l <;> simp [h1, h2] at c f h ⊢ <;> omega
  refine ⟨fun t ht => ?_, fun p hp => ?_⟩
  · have f := full t ht
    rw [gv] at f
    have c := cap t ht
    have lp := loop t ht
    have sm := same t ht
    have k0 := keptRow_at (two := two) (ts := ts) (l := l) (row := row) (t := t) (by omega)
    unfold standB
    clear full gv cap loop kp F hrow hv sT sS same
    revert f c lp sm k0
    generalize ts.getD t (0, 0) = p
    generalize row.getD t 0 = x
    generalize us.getD t 0 = u
    generalize (keptRow two ts l row).getD t 0 = k
    obtain ⟨y, z⟩ := p
    intro f c lp sm k0
    unfold inB at k0
    unfold gB at f k0 ⊢
    cases two <;> by_cases h1 : y ∈ l <;> by_cases h2 : z ∈ l <;> by_cases h3 : y = z <;> simp [h1, h2, h3] at f c lp sm k0 ⊢ <;> first | omega | (subst h3; simp [h1] at h2) | (subst h3; exact absurd h2 h1) | (constructor <;> omega)
  · have e : ledL ts (keptRow two ts l row) ts.length p = (netN two ts us).led r p := by
      rw [← led_N hrow p]
      unfold ledL
      refine su_congr fun t ht => ?_
      have ht := List.mem_range.mp ht
      by_cases h1 : (ts.getD t (0, 0)).1 = p
      · rw [same t ht (.inl (by rw [h1]; exact hp))]
      · by_cases h2 : (ts.getD t (0, 0)).2 = p
        · rw [same t ht (.inr (by rw [h2]; exact hp))]
        · rw [if_neg h1, if_neg h2, if_neg h1, if_neg h2]
    unfold badB
    rw [e]
    by_cases c : p ∈ S
    · have := kp.src p ((sS p).mp c)
      rw [decide_eq_false (by omega), decide_eq_true c]
      simp
    · have := F.keep p (decide_eq_false c) (sT p hp)
      rw [this]
      simp
end PL
namespace PL
variable [DL.Tb]
open PySem PySem.Spec PyProof.Rows L2 Evl DL FL
section
variable {K : PySem.W.Frag} {a : Ad} {B : Base} {δ : En} {te ta tb tc : TE} {E : XK} {P : Pd} {R : XR} {C : Addr} {two : Bool} {n m : Nat} {ts : List (Int × Int)} {us l row S : List Int} {d dl dh dr x : PyData} {ds : List PyData}
end
end PL
namespace PL
variable [DL.Tb]
open PySem PySem.Spec PyProof.Rows L2 Evl DL FL
section
variable {K : PySem.W.Frag} {a : Ad} {B : Base} {δ : En} {te ta tb tc : TE} {E : XK} {P : Pd} {R : XR} {C : Addr} {two : Bool} {n m : Nat} {ts : List (Int × Int)} {us l row S : List Int} {d dl dh dr x : PyData} {ds : List PyData}
theorem srt_ok (hl : LotIn n l) : LotIn n (srt l) := ⟨(srt_perm l).nodup_iff.mpr hl.1, fun x hx => hl.2 x (mem_srt.mp hx)⟩
end
end PL
namespace PL
variable [DL.Tb]
open PySem PySem.Spec PyProof.Rows L2 Evl DL FL
section
variable {K : PySem.W.Frag} {a : Ad} {B : Base} {δ : En} {te ta tb tc : TE} {E : XK} {P : Pd} {R : XR} {C : Addr} {two : Bool} {n m : Nat} {ts ps : List (Int × Int)} {us l row S T xs ys : List Int} {d dl dh dr x : PyData} {ds : List PyData}
theorem ed_tupP {Q : List PyData → Prop} (h : EL K B te δ Q) : ED K B (tCB (rTupQ K) (tCons te tNil)) δ (fun d => ∃ es, Q es ∧ d = .tuple es) := by
  refine ed_cbP (Pa := fun l => ∃ es, Q es ∧ l = [.list es]) ((ea_consP h.ed ea_nil).imp fun l ⟨d, ds, ⟨es, q, e⟩, e2, e3⟩ => ⟨es, q, by rw [e3, e, e2]⟩) ?_
  rintro _ ⟨es, q, rfl⟩
  exact fun B G H vs I r Q2 k => cd_tupL B G H vs I r Q2 fun z d G' H' e => k z d G' H' ⟨es, q, e⟩
theorem few_lot (h : ∀ x ∈ xs, 0 ≤ x ∧ x < (n : Int)) : ∀ c, Few xs c → c ≤ n := by
  rintro c ⟨_, ks, nd, rfl, hk⟩
  exact lot_len ⟨nd, fun x hx => h x (hk x hx)⟩
theorem w_bothB {b1 b2 : Nat} (h1 : ∀ c, Few xs c → c ≤ b1) (h2 : ∀ c, Few ys c → c ≤ b2) (hn : b1 + b2 ≤ 31) (z1 : xs.length ≤ 60) (z2 : ys.length ≤ 60) {d1 d2 : PyData} (r1 : RowV (xs.map PyData.int) d1) (r2 : RowV (ys.map PyData.int) d2)
    (pr : ∀ out : List Int, out.Pairwise (· < ·) → (∀ x, x ∈ out ↔ x ∈ xs ∨ x ∈ ys) → P (eU out)) : W_both K a [d1, d2] P R := fun B E hE => by
  refine sd_ret (ed_tupP (el_sortU (ed_row (i := 0) rfl r1) (ed_row (i := 1) rfl r2) h1 h2 hn z1 z2)) ?_
  rintro _ ⟨_, ⟨out, rfl, o1, o2⟩, rfl⟩
  exact pr out o1 o2
theorem w_both (h1 : ∀ x ∈ xs, 0 ≤ x ∧ x < (n : Int)) (h2 : ∀ x ∈ ys, 0 ≤ x ∧ x < (n : Int)) (hn : n ≤ 12) (z1 : xs.length ≤ 60) (z2 : ys.length ≤ 60) {d1 d2 : PyData} (r1 : RowV (xs.map PyData.int) d1) (r2 : RowV (ys.map PyData.int) d2)
    (pr : ∀ out : List Int, out.Pairwise (· < ·) → (∀ x, x ∈ out ↔ x ∈ xs ∨ x ∈ ys) → P (eU out)) : W_both K a [d1, d2] P R := w_bothB (few_lot h1) (few_lot h2) (by omega) z1 z2 r1 r2 pr
end
end PL
namespace PL
variable [DL.Tb]
open PySem PySem.Spec PyProof.Rows L2 Evl DL FL
section
variable {K : PySem.W.Frag} {a : Ad} {B : Base} {δ : En} {te ta tb tc : TE} {E : XK} {P : Pd} {R : XR} {C : Addr} {two : Bool} {n m : Nat} {ts ps : List (Int × Int)} {us rs l row S T xs ys : List Int} {d dl dh dr x : PyData} {ds : List PyData}
def places (n : Nat) : List Int := (List.range n).map fun i : Nat => (i : Int)
end
end PL
namespace PL
variable [DL.Tb]
open PySem PySem.Spec PyProof.Rows L2 Evl DL FL
structure IsLast (two : Bool) (n : Nat) (ts : List (Int × Int)) (us S T L : List Int) : Prop where
  lot : LotIn n L
  asc : L.Pairwise (· < ·)
  src : ∀ s ∈ S, s ∈ L
  snk : ∀ x ∈ L, x ∉ T
  le : ∀ M, LotIn n M → (∀ s ∈ S, s ∈ M) → (∀ x ∈ M, x ∉ T) → costL two ts us L ≤ costL two ts us M
  all : ∀ M, LotIn n M → (∀ s ∈ S, s ∈ M) → (∀ x ∈ M, x ∉ T) → costL two ts us M ≤ costL two ts us L → ∀ x ∈ M, x ∈ L
section
variable {K : PySem.W.Frag} {a : Ad} {B : Base} {δ : En} {te ta tb tc : TE} {E : XK} {P : Pd} {R : XR} {C : Addr} {two : Bool} {n m : Nat} {ts ps : List (Int × Int)} {us rs l row S T xs ys : List Int} {d dl dh dr x : PyData} {ds : List PyData}
end
end PL
namespace PL
variable [DL.Tb]
open PySem PySem.Spec PyProof.Rows L2 Evl DL FL
theorem IsLast.mem {two : Bool} {n : Nat} {ts : List (Int × Int)} {us S T S2 T2 L : List Int} (h : IsLast two n ts us S T L) (hs : ∀ x, x ∈ S ↔ x ∈ S2) (ht : ∀ x, x ∈ T ↔ x ∈ T2) : IsLast two n ts us S2 T2 L where
  lot := h.lot
  asc := h.asc
  src := fun s k => h.src s ((hs s).mpr k)
  snk := fun x k z => h.snk x k ((ht x).mpr z)
  le := fun M m1 m2 m3 => h.le M m1 (fun s k => m2 s ((hs s).mp k)) (fun x k z => m3 x k ((ht x).mp z))
  all := fun M m1 m2 m3 => h.all M m1 (fun s k => m2 s ((hs s).mp k)) (fun x k z => m3 x k ((ht x).mp z))
section
variable {K : PySem.W.Frag} {a : Ad} {B : Base} {δ : En} {te ta tb tc : TE} {E : XK} {P : Pd} {R : XR} {C : Addr} {two : Bool} {n m : Nat} {ts ps : List (Int × Int)} {us rs l row S T xs ys : List Int} {d dl dh dr x : PyData} {ds : List PyData}
end
end PL
namespace PL
variable [DL.Tb]
open PySem PySem.Spec PyProof.Rows L2 Evl DL FL
theorem one_lot {n : Nat} {p : Int} (h : 0 ≤ p ∧ p < (n : Int)) : LotIn n [p] := ⟨List.nodup_cons.mpr ⟨List.not_mem_nil, List.nodup_nil⟩, fun x hx => by rw [List.mem_singleton.mp hx]; exact h⟩
section
variable {K : PySem.W.Frag} {a : Ad} {B : Base} {δ : En} {te ta tb tc : TE} {E : XK} {P : Pd} {R : XR} {C : Addr} {two : Bool} {n m : Nat} {ts ps : List (Int × Int)} {us rs l row S T xs ys : List Int} {d dl dh dr x d1 d2 : PyData} {ds : List PyData} {i j : Int}
end
end PL
namespace PL
variable [DL.Tb]
open PySem PySem.Spec PyProof.Rows L2 Evl DL
theorem rngD_ints {n : Nat} : rngD 0 n = ((List.range n).map fun i : Nat => (i : Int)).map PyData.int := by
  unfold rngD
  rw [List.map_map]
  refine List.map_congr_left fun i _ => ?_
  show PyData.int (0 + (i : Int)) = PyData.int (i : Int)
  rw [Int.zero_add]
theorem range_ok {n : Nat} : LotIn n ((List.range n).map fun i : Nat => (i : Int)) := by
  refine ⟨List.Pairwise.map _ (fun a b (h : a ≠ b) => show (a : Int) ≠ (b : Int) by omega) List.nodup_range, fun x hx => ?_⟩
  obtain ⟨i, hi, rfl⟩ := List.mem_map.mp hx
  have := List.mem_range.mp hi
  omega
theorem sub_ints {es : List PyData} {l : List Int} (h : es.Sublist (l.map PyData.int)) : ∃ k : List Int, es = k.map PyData.int ∧ k.Sublist l := by
  obtain ⟨k, h1, h2⟩ := List.sublist_map_iff.mp h
  exact ⟨k, h2, h1⟩
section
variable {K : PySem.W.Frag} {B : Base} {X : XK} {a : Ad} {P : Pd} {two : Bool} {n m : Nat} {ts : List (Int × Int)} {us is l S T : List Int} {δ : En} {tt tu : TT} {te : TE}
theorem et_any {Pt : Bool → Prop} (h : ET K B tt δ Pt) : ET K B tt δ (fun _ => True) := fun G H σ E Q q => h G H σ E _ fun b G1 H1 _ m => q b G1 H1 trivial m
theorem ed_lenL {s : List PyData} (h : ED K B te δ (· = .list s)) : ED K B (tCB (rLenQ K) (tCons te tNil)) δ (· = .int (s.length : Int)) := ed_cb (ea_cons h ea_nil) cd_lenL
theorem w_law_lot (hn : n ≤ 12) (pr : ∀ l, LotIn n l → P (eIs l)) : W_law_lot K a [.int (n : Int)] P := fun B => by
  refine sd_ret (EL.ed (EL.imp (P' := fun es => ∃ l, LotIn n l ∧ es = l.map PyData.int) (el_lc (Pt := fun _ _ => True) (Pe := fun d e => e = d) (wd_rng1 (n := (n : Int)) (ea_cons (ed_var rfl) ea_nil) (by omega) (by omega)) (fun es d e hd => ?_) (fun es e => by rw [e, rngD_len]; omega)) ?_)) ?_
  · subst e
    obtain ⟨i, hi, rfl⟩ := rngD_mem hd
    exact ⟨_, _, gd_name, by simp, et_any (et_eqP (ed_take rfl ed_int (by decide)) (toI ed_int)), fun _ => ed_var rfl⟩
  · rintro es ⟨_, rfl, c⟩
    have q := CompR.sub c fun _ _ h => h
    rw [Int.toNat_natCast, rngD_ints] at q
    obtain ⟨k, rfl, hk⟩ := sub_ints q
    exact ⟨k, ⟨hk.nodup range_ok.1, fun x hx => range_ok.2 x (hk.subset hx)⟩, rfl⟩
  · rintro _ ⟨_, ⟨l, hl, rfl⟩, rfl⟩
    exact pr l hl
end
end PL
namespace PL
variable [DL.Tb]
open PySem PySem.Spec PyProof.Rows L2 Evl DL
section
variable {K : PySem.W.Frag} {B : Base} {X : XK} {a : Ad} {P : Pd} {two : Bool} {n m : Nat} {ts : List (Int × Int)} {us is l row S T : List Int} {δ : En} {tt tu : TT} {te ta tb : TE} {d dr : PyData}
theorem ed_isiT (h : ED K B te δ (· = .tuple (row.map PyData.int))) : ED K B (tCB (rIsi K) (tCons te (tCons (tC (.ty "tuple")) tNil))) δ (· = .bool true) := ed_isi (d := .tuple (row.map PyData.int)) (.inr (.inr (.inr (.inr rfl)))) rfl h
theorem asc_of {l : List Int} (h : l.Pairwise (· ≤ ·)) (nd : l.Nodup) : l.Pairwise (· < ·) := (h.and nd).imp fun {x y} z => by have h1 := z.1; have h2 := z.2; omega
theorem rev_eIs {δ : En} {k : Nat} {l : List Int} (h : δ[k]? = some (.sh (eIs l))) : ED K B (tRevL K (tVar k)) δ (· = eIs l.reverse) := EL.edd (EL.imp (el_rev (ed_var h)) fun es e => by rw [e, List.map_reverse])
theorem ed_tupL {δ : En} {k : Nat} {l : List Int} (h : δ[k]? = some (.sh (eIs l))) : ED K B (tCB (rTupQ K) (tCons (tVar k) tNil)) δ (· = eU l) := ed_cb (ds := [.list (l.map PyData.int)]) (ea_cons (ed_var h) ea_nil) cd_tupL
theorem ed_l1 {ta : TE} {x : PyData} (h : ED K B ta δ (· = x)) : ED K B (tLst (tCons ta tNil)) δ (· = .list [x]) := EL.edd (el_lst (ea_cons h ea_nil) (by show 1 ≤ 100000; omega))
theorem ed_l2 {ta tb : TE} {x y : PyData} (h : ED K B ta δ (· = x)) (h2 : ED K B tb δ (· = y)) : ED K B (tLst (tCons ta (tCons tb tNil))) δ (· = .list [x, y]) := EL.edd (el_lst (ea_cons h (ea_cons h2 ea_nil)) (by show 2 ≤ 100000; omega))
theorem ed_cat {xs ys : List PyData} (h : ED K B ta δ (· = .list xs)) (h2 : ED K B tb δ (· = .list ys)) (hz : xs.length + ys.length ≤ 90000) : ED K B (tOp rCat ta tb) δ (· = .list (xs ++ ys)) :=
  EL.edd (EL.imp (el_cat (Pa := (· = xs)) (Pb := (· = ys)) (toL h) (toL h2) (fun a b e1 e2 => by rw [e1, e2]; exact hz)) (fun es ⟨a, b, e1, e2, e3⟩ => by rw [e3, e1, e2]))
end
end PL
namespace PL
variable [DL.Tb]
open PySem PySem.Spec PyProof.Rows L2 Evl DL
section
variable {K : PySem.W.Frag} {B : Base} {X : XK} {a : Ad} {P : Pd} {two : Bool} {n m : Nat} {ts : List (Int × Int)} {us is l row S T : List Int} {δ : En} {te : TE}
theorem fsr_one {G : Hp} {fs : List (Str × V)} {f : Str} {d : PyData} (h : FsR K G fs [(f, d)]) : ∃ v, fs = [(f, v)] ∧ Rp K G v d := by
  obtain ⟨h1, h2⟩ := h
  match fs, h1, h2 with
  | [(g, v)], h1, h2 =>
    simp only [List.map_cons, List.map_nil, List.cons.injEq, and_true] at h1
    subst h1
    cases h2 with
    | cons r _ => exact ⟨v, rfl, r⟩
theorem x_good_lotT {n : Int} {l : List Int} {x : PyData} {xs : List PyData} {d : PyData} {R : XR} (er : a.er "BadLot" = true) (hl : LotIn n l) (hx : BadM n l x) (hd : RowV (l.map PyData.int ++ x :: xs) d) (r : R (a.ec "BadLot") [("at", .int (l.length : Int))]) : W_good_lot K a [.int n, d] P R := fun B E hE => by
  refine sd_cons (sd_asgd (d := .int (l.length : Int)) (ed_cX0 (ea_cons (ed_var rfl) (ea_cons (ed_var rfl) ea_nil)) (sd_wm (tl := x :: xs) hl hd (fun h => by cases h) (fun y ys h => by cases h; exact ⟨hx, rfl⟩))) ?_)
  exact sd_cons (sd_ifd (x := true) (et_test (ed_opd (ed_var rfl) ed_non rd_notN)) (fun _ => by rw [er]; exact sd_rz (ed_var rfl) (.i _) hE r) (fun h => by cases h))
end
end PL
namespace PL
variable [DL.Tb]
open PySem PySem.Spec PyProof.Rows L2 Evl DL FL
theorem asc_eq : ∀ {l m : List Int}, l.Pairwise (· < ·) → m.Pairwise (· < ·) → (∀ x, x ∈ l ↔ x ∈ m) → l = m
  | [], [], _, _, _ => rfl
  | [], y :: m, _, _, h => absurd ((h y).mpr List.mem_cons_self) List.not_mem_nil
  | x :: l, [], _, _, h => absurd ((h x).mp List.mem_cons_self) List.not_mem_nil
  | x :: l, y :: m, h1, h2, h => by
    obtain ⟨a1, a2⟩ := List.pairwise_cons.mp h1
    obtain ⟨b1, b2⟩ := List.pairwise_cons.mp h2
    have e : x = y := by
      rcases List.mem_cons.mp ((h x).mp List.mem_cons_self) with e | k1
      · exact e
      rcases List.mem_cons.mp ((h y).mpr List.mem_cons_self) with e | k2
      · exact e.symm
      have := b1 x k1
      have := a1 y k2
      omega
    subst e
    congr 1
    refine asc_eq a2 b2 fun z => ⟨fun hz => ?_, fun hz => ?_⟩
    · rcases List.mem_cons.mp ((h z).mp (List.mem_cons_of_mem _ hz)) with e | k
      · have := a1 z hz; omega
      · exact k
    · rcases List.mem_cons.mp ((h z).mpr (List.mem_cons_of_mem _ hz)) with e | k
      · have := b1 z hz; omega
      · exact k
open Classical in
theorem heldB_iff {two : Bool} {n : Nat} {ts : List (Int × Int)} {us l : List Int} {p : Int} : heldB two n ts us l p = true ↔ Held two n ts us l p := by
  unfold heldB
  exact decide_eq_true_iff
section
variable {K : PySem.W.Frag} {a : Ad} {B : Base} {δ : En} {te ta tb tc : TE} {E : XK} {P : Pd} {R : XR} {C : Addr} {two : Bool} {n m : Nat} {ts ps : List (Int × Int)} {us rs l row S T xs ys : List Int} {d dl dh dr x d1 d2 : PyData} {ds : List PyData} {i j : Int}
end
end PL
namespace PL
variable [DL.Tb]
open PySem PySem.Spec PyProof.Rows L2 Evl DL
section
variable {K : PySem.W.Frag} {B : Base} {X : XK} {a : Ad} {P : Pd} {two : Bool} {n m : Nat} {ts : List (Int × Int)} {us is l S T : List Int} {δ : En} {te : TE}
end
end PL
namespace PL
variable [DL.Tb]
open PySem PySem.Spec PyProof.Rows L2 Evl DL
section
variable {K : PySem.W.Frag} {B : Base} {X : XK} {a : Ad} {P : Pd} {two : Bool} {n m : Nat} {ts : List (Int × Int)} {us is l row S T : List Int} {δ : En} {te : TE}
def Ref (K : PySem.W.Frag) (B : Base) (t : WX → TS) (δ : En) (C : Addr) (fd : List (Str × PyData)) : Prop := ∀ G H σ D W', EnvD K B G H σ δ → (∀ fs dd G' H', FsR K G' fs fd → Gm B G H G' H' → XdAt H' dd fs → W' (.ref C) dd σ H') → t W' D σ H
theorem ref_call {W : WTX} {k : Nat} {tA : TA} {ds : List PyData} {C : Addr} {fd : List (Str × PyData)} {kk : WX → Ends → L2.St → V → Hp → Prop} (h : EA K B tA δ (· = ds)) (w : ∀ R : XR, R C fd → W ds (fun _ => False) R) (hl : ds.length = k := by rfl) :
    Ref K B (fun W' D σ H => tCallS (SpWX K k W) (WE W') tA σ H (kk W' D σ)) δ C fd := fun G H σ D W' Ev hit =>
  h G H σ Ev _ fun vs es G1 H1 pd m r => by
    subst pd
    have I1 := Ev.iv.at m
    exact ⟨G1, es, fun _ => False, fun C' fd' => C' = C ∧ fd' = fd, I1.i0, r, hl, w _ ⟨rfl, rfl⟩, fun d po => po.elim, fun C' fd' fs dd G2 H2 hr hf J hdd => by
      obtain ⟨rfl, rfl⟩ := hr
      exact hit fs dd G2 H2 hf (m.trans (I1.gmP J) Ev.iv) hdd⟩
theorem ref_drop {W : WTX} {k : Nat} {tA : TA} {ds : List PyData} {C : Addr} {fd : List (Str × PyData)} (h : EA K B tA δ (· = ds)) (w : ∀ R : XR, R C fd → W ds (fun _ => False) R) (hl : ds.length = k := by rfl) : Ref K B (fun W' => tDrop (tCallS (SpWX K k W) (WE W') tA)) δ C fd :=
  ref_call (kk := fun W' D σ => fun _ H1 => D.nx σ H1) h w hl
theorem ref_asg {W : WTX} {k j : Nat} {tA : TA} {ds : List PyData} {C : Addr} {fd : List (Str × PyData)} (h : EA K B tA δ (· = ds)) (w : ∀ R : XR, R C fd → W ds (fun _ => False) R) (hl : ds.length = k := by rfl) : Ref K B (fun W' => tAsg (tCallS (SpWX K k W) (WE W') tA) (gName j)) δ C fd := fun G H σ D W' Ev hit =>
  h G H σ Ev _ fun vs es G1 H1 pd m r => by
    subst pd
    have I1 := Ev.iv.at m
    exact ⟨G1, es, fun _ => False, fun C' fd' => C' = C ∧ fd' = fd, I1.i0, r, hl, w _ ⟨rfl, rfl⟩, fun d po => po.elim, fun C' fd' fs dd G2 H2 hr hf J hdd => by
      obtain ⟨rfl, rfl⟩ := hr
      exact hit fs dd G2 H2 hf (m.trans (I1.gmP J) Ev.iv) hdd⟩
theorem ref_if {tt : TT} {t u : WX → TS} {b : Bool} {C : Addr} {fd : List (Str × PyData)} (h : ET K B tt δ (· = b)) (h1 : b = true → Ref K B t δ C fd) (h2 : b = false → Ref K B u δ C fd) : Ref K B (fun W' => tIfS tt (t W') (u W')) δ C fd := fun G H σ D W' Ev hit =>
  h G H σ Ev _ fun c G1 H1 e m => by
    subst e
    cases c with
    | true => exact h1 rfl G1 H1 σ D W' (Ev.at m) fun fs dd G' H' hf J hdd => hit fs dd G' H' hf (m.trans J Ev.iv) hdd
    | false => exact h2 rfl G1 H1 σ D W' (Ev.at m) fun fs dd G' H' hf J hdd => hit fs dd G' H' hf (m.trans J Ev.iv) hdd
end
open FL
end PL
namespace PL
variable [DL.Tb]
open PySem PySem.Spec PyProof.Rows L2 Evl DL FL
def amtB (d : PyData) : Bool := match d with
  | .int u => decide (0 ≤ u)
  | _ => false
theorem fw_ex : ∀ {bs : List Bool} {k : Nat}, bs[k]? = some false → (∀ j, j < k → bs[j]? = some true) → bs.findIdx? (!·) = some k
  | b :: bs, 0, h, _ => by
    cases h
    rw [List.findIdx?_cons]
    rfl
  | b :: bs, k + 1, h, h0 => by
    have e : b = true := Option.some.inj (h0 0 (by omega))
    subst e
    rw [List.findIdx?_cons, fw_ex (bs := bs) (k := k) h fun j hj => h0 (j + 1) (by omega)]
    rfl
section
variable {K : PySem.W.Frag} {a : Ad} {B : Base} {δ : En} {te ta tb tc : TE} {E : XK} {P : Pd} {R : XR} {C : Addr} {two : Bool} {n m : Nat} {ts ps : List (Int × Int)} {us rs l row S T xs ys : List Int} {d dl dh dr ds_ x d1 d2 : PyData} {ds tl : List PyData} {i j : Int}
theorem x_good_world_at {m : Int} {ds : List PyData} {k : Nat} {d x : PyData} (er : a.er "BadWorld" = true) (hm : m = (ds.length : Int)) (hz : ds.length ≤ 1000) (hp : ∀ y ∈ ds, plainB y = true) (hd : RowV ds d) (hk : ds[k]? = some x) (bad : amtB x = false) (ok : ∀ j, j < k → ∀ y, ds[j]? = some y → amtB y = true) (r : R (a.ec "BadWorld") [("at", .int (k : Int))]) : W_good_world K a [.int m, d] P R := fun B E hE => by
  refine sd_cons (sd_ifd (x := false) ((et_or (a := false) (b := false) ((et_not (et_B (ed_isRow (rowPl hd) (ed_var rfl)))).is (by rw [rowRow hd]; rfl)) fun _ => (et_and (et_test (ed_opd (ed_var rfl) ed_non rd_notN)) fun _ => et_test (ed_opd (len_row rfl hd) (ed_var rfl) (rd_ne rfl))).is (by rw [hm]; simp [eqS, isN])).is rfl) (fun h => by cases h) (fun _ => sd_next ?_))
  have e : fwD (ds.map amtB) = .int (k : Int) := by
    unfold fwD
    rw [fw_ex (k := k) (by rw [List.getElem?_map, hk]; show some _ = _; rw [bad]) fun j hj => ?_]
    have h1 := (List.getElem?_eq_some_iff.mp hk).1
    rw [List.getElem?_map, List.getElem?_eq_getElem (by omega)]
    show some _ = _
    rw [ok j hj _ (List.getElem?_eq_getElem (by omega))]
  refine sd_cons (sd_asgd (d := .int (k : Int)) (ed_cX0 (ds := [.list ((ds.map amtB).map PyData.bool)]) (ea_cons (EL.edd ((el_lcd (fun _ => true) (fun y => .bool (amtB y)) (wd_seq (ds := ds) (ed_row (i := 1) rfl hd)) (fun y h => ⟨_, _, gd_name, fun _ h => h, et_yes, fun _ => ?_⟩) (by omega)).imp fun es e => by rw [e, List.filter_eq_self.mpr (fun _ _ => rfl), List.map_map]; rfl)) ea_nil) (w_first_wrong e)) ?_)
  · cases hi : isIntD y with
    | true =>
      cases y with
      | int u => exact ED.is (ed_andV (ed_isInt (d := .int u) rfl (ed_var rfl)) fun _ => ed_opb (f := fun i j => decide (j ≤ i)) (ed_var rfl) ed_int) rfl
      | _ => cases hi
    | false =>
      have e2 : amtB y = false := by
        cases y with
        | int u => cases hi
        | _ => rfl
      rw [e2]
      exact ED.is (ed_andV (a := false) (b := false) ((ed_isInt (hp y h) (ed_var rfl)).is (by rw [hi])) fun h => by cases h) rfl
  refine sd_cons (sd_ifd (x := true) (et_test (ed_opd (ed_var rfl) ed_non rd_notN)) (fun _ => by rw [er]; exact sd_rz (ed_var rfl) (.i _) hE r) (fun h => by cases h))
theorem x_good_lot_no {n : Int} {d : PyData} (er : a.er "BadLot" = true) (hp : plainB d = true) (hd : isRowD d = false) (r : R (a.ec "BadLot") [("at", .int (-1))]) : W_good_lot K a [.int n, d] P R := fun B E hE => by
  refine sd_cons (sd_asgd (d := .int (-1)) (ed_cX0 (ea_cons (ed_var rfl) (ea_cons (ed_var rfl) ea_nil)) fun B E hE => ?_) ?_)
  · exact sd_cons (sd_ifd (x := true) ((et_not (et_B (ed_isRow hp (ed_var rfl)))).is (by rw [hd]; rfl)) (fun _ => sd_retd (ed_neg ed_int) rfl) (fun h => by cases h))
  · exact sd_cons (sd_ifd (x := true) (et_test (ed_opd (ed_var rfl) ed_non rd_notN)) (fun _ => by rw [er]; exact sd_rz (ed_var rfl) (.i _) hE r) (fun h => by cases h))
theorem x_good_lotU {n : Int} {l : List Int} {x : PyData} {xs : List PyData} {d : PyData} (er : a.er "BadLot" = true) (hl : LotIn n l) (hx : BadM n l x) (hd : RowV (l.map PyData.int ++ x :: xs) d) (r : R (a.ec "BadLot") [("at", .int (l.length : Int))]) : W_good_lot K a [.int n, d] P R := x_good_lotT er hl hx hd r
theorem w_minus (hS : S.length < 64) (hd : RowV (S.map PyData.int) d) (hd2 : RowV (T.map PyData.int) d2) (p : P (eU ((srt S).filter fun x => !decide (x ∈ T)))) : W_minus K a [d, d2] P R := fun B E hE => by
  have hz : (srt S).length = S.length := (srt_perm S).length_eq
  have hin : ∀ {δ : En} {x : Int}, δ[2]? = some (.sh (.int x)) → δ[1]? = some (.sh d2) → ED K B (tOp (rIn K true) (tVar 2) (tVar 1)) δ (· = .bool (!decide (x ∈ T))) := fun h1 h2 => by
    rcases hd2 with rfl | rfl
    · exact (ed_opd (ed_var h1) (ed_var h2) (rd_inL (neg := true) (ns := T))).is rfl
    · exact (ed_opd (ed_var h1) (ed_var h2) (rd_inT (neg := true) (ns := T))).is rfl
  have hs : EL K B (tCB (rSortedQ K) (tCons (tVar 0) tNil)) (stD N_minus [d, d2]) (fun es => ∃ ms : List Int, es = ms.map PyData.int ∧ ms.Perm S ∧ ms.Pairwise (· ≤ ·)) := el_cbP (Pa := fun es => ∃ x, RowV (S.map PyData.int) x ∧ es = [x]) ((ea_consP (ed_row (i := 0) rfl hd) ea_nil).imp fun es ⟨x, xs, h, e, q⟩ => ⟨x, h, by rw [q, e]⟩) (fun es ⟨x, h, e⟩ => by rw [e]; exact cl_sortedQ h hS)
  exact sd_retd (ed_cb (ds := [.list (((srt S).filter fun x => !decide (x ∈ T)).map PyData.int)]) (ea_cons (EL.edd (el_lcx (srt S) PyData.int int_inj (fun x => !decide (x ∈ T)) PyData.int (wd_list (EL.edd (EL.imp hs fun es ⟨ms, e, h1, h2⟩ => by rw [e, srt_eq h1 h2]))) (fun x hx => ⟨_, _, gd_name, by simp, et_test (hin rfl rfl), fun _ => ed_var rfl⟩) (by omega))) ea_nil) cd_tupL) p
theorem srt_srt {S : List Int} : srt (srt S) = srt S := (srt_eq (List.Perm.refl _) (srt_le S)).symm
end
end PL
namespace PL
variable [DL.Tb]
open PySem PySem.Spec PyProof.Rows L2 Evl DL
section
variable {K : PySem.W.Frag} {B : Base} {X : XK} {a : Ad} {P : Pd} {two : Bool} {n m : Nat} {ts : List (Int × Int)} {us is l row S T : List Int} {δ : En} {tt tu : TT} {te ta tb : TE} {d dr : PyData}
theorem w_law_lot_ok (hs : l.Pairwise (· < ·)) (hl : ∀ x ∈ l, 0 ≤ x ∧ x < (n : Int)) (hz : l.length ≤ 1000) (pr : P (.bool true)) : W_law_lot_ok K a [eU l, .int (n : Int)] P := fun B => by
  refine sd_cons (sd_ifd (x := false) ((et_not (et_B (ed_isiT (ed_var rfl)))).is rfl) (fun h => by cases h) (fun _ => sd_next ?_))
  refine sd_cons (sd_asgd (ed_neg ed_int) ?_)
  refine sd_mid (fun δ' => ∃ s t : Sl, δ' = [.sh (eU l), .sh (.int (n : Int)), s, t])
    (sd_ford (fun k δ' => ∃ (b : Int) (t : Sl), (∀ (j : Nat) (x : Int), k ≤ j → l[j]? = some x → b < x) ∧ δ' = [.sh (eU l), .sh (.int (n : Int)), .sh (.int b), t]) (wd_tup (ds := l.map PyData.int) (ed_var rfl)) ⟨-1, .no, fun j x _ h => ?_, rfl⟩ ?_ ?_) ?_
  · have := (hl x (List.mem_of_getElem? h)).1
    omega
  · rintro k d _ hk ⟨b, t, hb, rfl⟩
    rw [List.getElem?_map] at hk
    cases hx : l[k]? with
    | none => rw [hx] at hk; cases hk
    | some x =>
      rw [hx] at hk
      cases hk
      have h1 := hb k x (Nat.le_refl _) hx
      have h2 := hl x (List.mem_of_getElem? hx)
      refine ⟨_, _, gd_name, sd_cons (sd_ifd (x := false) ((et_or (a := false) (b := false) ((et_not (et_B (ed_cN (ea_cons (ed_var rfl) ea_nil) (w_law_int (d := .int x) rfl rfl)))).is rfl) fun _ => (et_or (a := false) (b := false) ((et_test (ed_opb (ed_var rfl) (ed_var rfl))).is (by simp; omega)) fun _ => (et_test (ed_opb (ed_var rfl) (ed_var rfl))).is (by simp; omega)).is rfl).is rfl) (fun h => by cases h) (fun _ => sd_next ?_))⟩
      refine sd_asgd (ed_var rfl) ⟨x, _, fun j y hj hy => ?_, rfl⟩
      obtain ⟨k1, e1⟩ := List.getElem?_eq_some_iff.mp hx
      obtain ⟨j1, e2⟩ := List.getElem?_eq_some_iff.mp hy
      have := List.pairwise_iff_getElem.mp hs k j k1 j1 (by omega)
      rw [e1, e2] at this
      exact this
  · rintro _ ⟨b, t, _, rfl⟩
    exact ⟨_, _, rfl⟩
  · rintro _ ⟨s, t, rfl⟩
    exact sd_retd ed_bl pr
end
end PL
namespace PL
variable [DL.Tb]
open PySem PySem.Spec PyProof.Rows L2 Evl DL
open FL
end PL
namespace PL
variable [DL.Tb]
open PySem PySem.Spec PyProof.Rows L2 Evl DL FL
def back (ts : List (Int × Int)) : List (Int × Int) := ts.map fun t => (t.2, t.1)
theorem back_len {ts : List (Int × Int)} : (back ts).length = ts.length := by unfold back; rw [List.length_map]
theorem back_at {ts : List (Int × Int)} {t : Nat} : (back ts).getD t (0, 0) = ((ts.getD t (0, 0)).2, (ts.getD t (0, 0)).1) := by
  unfold back
  rw [List.getD_eq_getElem?_getD, List.getElem?_map, List.getD_eq_getElem?_getD]
  cases ts[t]? <;> rfl
theorem inR_at {n : Int} {ts : List (Int × Int)} (h : InR n ts) {t : Nat} (ht : t < ts.length) : 0 ≤ (ts.getD t (0, 0)).1 ∧ (ts.getD t (0, 0)).1 < n ∧ 0 ≤ (ts.getD t (0, 0)).2 ∧ (ts.getD t (0, 0)).2 < n := by
  rw [List.getD_eq_getElem?_getD, List.getElem?_eq_getElem ht]
  exact h _ (List.getElem_mem ht)
theorem cost_su {two : Bool} {ts : List (Int × Int)} {us M : List Int} : costL two ts us M = su (List.range ts.length) fun t => if gB two M (ts.getD t (0, 0)) = true then us.getD t 0 else 0 := sumAt_su
structure IsFirst (two : Bool) (n : Nat) (ts : List (Int × Int)) (us S T F : List Int) : Prop where
  lot : LotIn n F
  asc : F.Pairwise (· < ·)
  src : ∀ s ∈ S, s ∈ F
  snk : ∀ x ∈ F, x ∉ T
  le : ∀ M, LotIn n M → (∀ s ∈ S, s ∈ M) → (∀ x ∈ M, x ∉ T) → costL two ts us F ≤ costL two ts us M
  all : ∀ M, LotIn n M → (∀ s ∈ S, s ∈ M) → (∀ x ∈ M, x ∉ T) → costL two ts us M ≤ costL two ts us F → ∀ x ∈ F, x ∈ M
theorem IsFirst.mem {two : Bool} {n : Nat} {ts : List (Int × Int)} {us S T S2 T2 L : List Int} (h : IsFirst two n ts us S T L) (hs : ∀ x, x ∈ S ↔ x ∈ S2) (ht : ∀ x, x ∈ T ↔ x ∈ T2) : IsFirst two n ts us S2 T2 L where
  lot := h.lot
  asc := h.asc
  src := fun s k => h.src s ((hs s).mpr k)
  snk := fun x k z => h.snk x k ((ht x).mpr z)
  le := fun M m1 m2 m3 => h.le M m1 (fun s k => m2 s ((hs s).mp k)) (fun x k z => m3 x k ((ht x).mp z))
  all := fun M m1 m2 m3 => h.all M m1 (fun s k => m2 s ((hs s).mp k)) (fun x k z => m3 x k ((ht x).mp z))
section
variable {K : PySem.W.Frag} {a : Ad} {B : Base} {δ : En} {te ta tb tc : TE} {E : XK} {P : Pd} {R : XR} {C : Addr} {two : Bool} {n m : Nat} {ts ps : List (Int × Int)} {us rs l row S T xs ys : List Int} {d dl dh dr ds_ x d1 d2 : PyData} {ds tl : List PyData} {i j : Int}
theorem srt_asc (h : LotIn n S) : (srt S).Pairwise (· < ·) := ((srt_le S).and ((srt_perm S).nodup_iff.mpr h.1)).imp fun {x y} z => by have h1 := z.1; have h2 := z.2; omega
end
end PL
namespace PL
variable [DL.Tb]
open PySem PySem.Spec PyProof.Rows L2 Evl DL
section
variable {K : PySem.W.Frag} {B : Base} {X : XK} {a : Ad} {P : Pd} {two : Bool} {n m : Nat} {ts : List (Int × Int)} {us is l row S T : List Int} {δ : En} {te : TE}
theorem set_no {i : Nat} (h : δ[i]? = some .no) : δ.set i .no = δ := by
  apply List.ext_getElem?
  intro k
  rw [List.getElem?_set]
  by_cases e : i = k
  · subst e
    have := (List.getElem?_eq_some_iff.mp h).1
    rw [if_pos rfl, if_pos this, h]
  · rw [if_neg e]
end
end PL
namespace PL
variable [DL.Tb]
open PySem PySem.Spec PyProof.Rows L2 Evl DL FL
abbrev Tq (a : Ad) : Prop := TbAt a.tP (("by_size" : Str) ++ ".<locals>." ++ "<lambda>")
theorem eU_inj {x y : List Int} (e : eU x = eU y) : x = y := by
  injection e with e
  exact (List.map_inj_right fun _ _ h => PyData.int.inj h).mp e
structure LInv (I A : List Int) (F : List (List Int)) : Prop where
  nd : F.Nodup
  iff : ∀ l, l ∈ F ↔ l.Pairwise (· < ·) ∧ (∀ x ∈ I, x ∈ l) ∧ ∀ x ∈ l, x ∈ I ∨ x ∈ A
def stepL (F : List (List Int)) (p : Int) : List (List Int) := F ++ F.map fun l => srt (l ++ [p])
theorem asc_nd {l : List Int} (h : l.Pairwise (· < ·)) : l.Nodup := h.imp fun h e => by omega
theorem put_nd {l : List Int} {p : Int} (h : l.Pairwise (· < ·)) (hp : p ∉ l) : (l ++ [p]).Nodup := List.nodup_append.mpr ⟨asc_nd h, by simp, fun x hx y hy e => by
  rw [List.mem_singleton.mp hy] at e
  exact hp (e ▸ hx)⟩
theorem put_asc {l : List Int} {p : Int} (h : l.Pairwise (· < ·)) (hp : p ∉ l) : (srt (l ++ [p])).Pairwise (· < ·) := asc_of (srt_le _) ((srt_perm _).nodup_iff.mpr (put_nd h hp))
theorem mem_put {l : List Int} {p x : Int} : x ∈ srt (l ++ [p]) ↔ x ∈ l ∨ x = p := by rw [mem_srt, List.mem_append, List.mem_singleton]
theorem LInv.step {I A : List Int} {F : List (List Int)} {p : Int} (h : LInv I A F) (hI : p ∉ I) (hA : p ∉ A) : LInv I (A ++ [p]) (stepL F p) := by
  have out : ∀ l ∈ F, p ∉ l := fun l hl z => (((h.iff l).mp hl).2.2 p z).elim hI hA
  refine ⟨List.nodup_append.mpr ⟨h.nd, ?_, fun l hl k hk e => ?_⟩, fun l => ?_⟩
  · refine List.pairwise_map.mpr (h.nd.imp_of_mem fun {l k} hl hk ne e => ne ?_)
    refine asc_eq ((h.iff l).mp hl).1 ((h.iff k).mp hk).1 fun x => ?_
    have q : ∀ y, (y ∈ l ∨ y = p) ↔ (y ∈ k ∨ y = p) := fun y => by rw [← mem_put, ← mem_put, e]
    constructor
    · intro z
      rcases (q x).mp (.inl z) with w | rfl
      · exact w
      · exact absurd z (out l hl)
    · intro z
      rcases (q x).mpr (.inl z) with w | rfl
      · exact w
      · exact absurd z (out k hk)
  · obtain ⟨m, hm, rfl⟩ := List.mem_map.mp hk
    exact out l hl (by rw [e]; exact mem_put.mpr (.inr rfl))
  · unfold stepL
    rw [List.mem_append, List.mem_map]
    constructor
    · rintro (z | ⟨m, hm, rfl⟩)
      · obtain ⟨a, b, c⟩ := (h.iff l).mp z
        exact ⟨a, b, fun x hx => (c x hx).imp id fun w => List.mem_append_left _ w⟩
      · obtain ⟨a, b, c⟩ := (h.iff m).mp hm
        refine ⟨put_asc a (out m hm), fun x hx => mem_put.mpr (.inl (b x hx)), fun x hx => ?_⟩
        rcases mem_put.mp hx with w | rfl
        · exact (c x w).imp id fun w => List.mem_append_left _ w
        · exact .inr (List.mem_append_right _ (List.mem_singleton.mpr rfl))
    · rintro ⟨a, b, c⟩
      by_cases hp : p ∈ l
      · right
        have fa : (l.filter fun x => decide (x ≠ p)).Pairwise (· < ·) := a.filter _
        have fm : ∀ x, x ∈ l.filter (fun x => decide (x ≠ p)) ↔ x ∈ l ∧ x ≠ p := fun x => by rw [List.mem_filter, decide_eq_true_iff]
        have np : p ∉ l.filter (fun x => decide (x ≠ p)) := fun z => ((fm p).mp z).2 rfl
        refine ⟨_, (h.iff _).mpr ⟨fa, fun x hx => (fm x).mpr ⟨b x hx, fun e => hI (e ▸ hx)⟩, fun x hx => ?_⟩, asc_eq (put_asc fa np) a fun x => ?_⟩
        · obtain ⟨h1, h2⟩ := (fm x).mp hx
          rcases c x h1 with w | w
          · exact .inl w
          · rcases List.mem_append.mp w with w | w
            · exact .inr w
            · exact absurd (List.mem_singleton.mp w) h2
        · rw [mem_put, fm]
          constructor
          · rintro (z | rfl)
            · exact z.1
            · exact hp
          · intro z
            by_cases e : x = p
            · exact .inr e
            · exact .inl ⟨z, e⟩
      · left
        refine (h.iff l).mpr ⟨a, b, fun x hx => ?_⟩
        rcases c x hx with w | w
        · exact .inl w
        · rcases List.mem_append.mp w with w | w
          · exact .inr w
          · rw [List.mem_singleton.mp w] at hx
            exact absurd hx hp
theorem LInv.all {I : List Int} : ∀ (ps : List Int) {A : List Int} {F : List (List Int)}, LInv I A F → ps.Nodup → (∀ p ∈ ps, p ∉ I ∧ p ∉ A) → LInv I (A ++ ps) (ps.foldl stepL F)
  | [], A, F, h, _, _ => by rw [List.append_nil]; exact h
  | p :: ps, A, F, h, nd, ho => by
    obtain ⟨n1, n2⟩ := List.nodup_cons.mp nd
    have z := LInv.all ps (h.step (ho p List.mem_cons_self).1 (ho p List.mem_cons_self).2) n2 fun q hq => ⟨(ho q (List.mem_cons_of_mem _ hq)).1, fun w => by
      rcases List.mem_append.mp w with w | w
      · exact (ho q (List.mem_cons_of_mem _ hq)).2 w
      · rw [List.mem_singleton.mp w] at hq
        exact n1 hq⟩
    rw [List.append_assoc] at z
    exact z
theorem LInv.one {I : List Int} (h : I.Pairwise (· < ·)) : LInv I [] [I] := ⟨by simp, fun l => by
  rw [List.mem_singleton]
  constructor
  · rintro rfl
    exact ⟨h, fun _ z => z, fun _ z => .inl z⟩
  · rintro ⟨a, b, c⟩
    exact asc_eq a h fun x => ⟨fun z => (c x z).elim id (fun w => (List.not_mem_nil w).elim), b x⟩⟩
theorem fold_len : ∀ (ps : List Int) (F : List (List Int)), (ps.foldl stepL F).length = 2 ^ ps.length * F.length
  | [], F => by simp
  | p :: ps, F => by
    rw [List.foldl_cons, fold_len ps, stepL, List.length_append, List.length_map, List.length_cons, Nat.pow_succ, Nat.mul_assoc]
    congr 1
    omega
structure LotsB (I O : List Int) (L : List (List Int)) : Prop where
  nd : L.Nodup
  iff : ∀ l, l ∈ L ↔ l.Pairwise (· < ·) ∧ (∀ x ∈ I, x ∈ l) ∧ ∀ x ∈ l, x ∈ I ∨ x ∈ O
  ord : L.Pairwise fun a b => leK a b = true
  len : L.length ≤ 4096
theorem LotsB.eq {I O : List Int} {L M : List (List Int)} (h : LotsB I O L) (k : LotsB I O M) : L = M := by
  have p : L.Perm M := (List.perm_ext_iff_of_nodup h.nd k.nd).mpr fun l => (h.iff l).trans (k.iff l).symm
  exact p.eq_of_pairwise (fun _ _ _ _ h1 h2 => leK_anti h1 h2) h.ord k.ord
section
variable {K : PySem.W.Frag} {a : Ad} {B : Base} {δ : En} {te ta tb tc : TE} {E : XK} {P : Pd} {R : XR} {C : Addr} {two : Bool} {n m : Nat} {ts ps : List (Int × Int)} {us rs l row S T I O xs ys : List Int} {ls : List (List Int)} {d dl dh dr ds_ x d1 d2 : PyData} {ds tl : List PyData} {i j : Int}
theorem w_by_size (T : Tq a) (hn : ls.length ≤ 100000) (hl : ∀ l ∈ ls, l.length ≤ 100000) (pr : P (.list ((srtL ls).map eU))) : W_by_size K a [.list (ls.map eU)] P R := fun B E hE =>
  sd_retd (EL.edd (el_sortK T (ed_var rfl) hn hl)) pr
theorem w_lots_insideB (T : Tq a) (ia : I.Pairwise (· < ·)) (hI : LotIn n I) (hO : LotIn n O) (i12 : I.length ≤ 12) (h12 : O.length ≤ 12) (pr : ∀ L, LotsB I O L → P (.list (L.map eU))) : W_lots_inside K a [eU I, eU O] P R := fun B E hE => by
  have hps : LotIn n ((srt O).filter fun x => !decide (x ∈ I)) := ⟨(srt_ok hO).1.filter _, fun x hx => (srt_ok hO).2 x (List.mem_filter.mp hx).1⟩
  have lp : ((srt O).filter fun x => !decide (x ∈ I)).length ≤ 12 := Nat.le_trans (List.length_filter_le _ _) (by rw [(srt_perm O).length_eq]; exact h12)
  have notI : ∀ p ∈ (srt O).filter (fun x => !decide (x ∈ I)), p ∉ I ∧ p ∉ ([] : List Int) := fun p hp => ⟨by simpa using (List.mem_filter.mp hp).2, fun z => nomatch z⟩
  have full := LInv.all _ (LInv.one ia) hps.1 notI
  have inO : ∀ x, (x ∈ I ∨ x ∈ [] ++ (srt O).filter (fun x => !decide (x ∈ I))) ↔ (x ∈ I ∨ x ∈ O) := fun x => by
    rw [List.nil_append, List.mem_filter, mem_srt]
    by_cases c : x ∈ I <;> simp [c]
  generalize hP : (srt O).filter (fun x => !decide (x ∈ I)) = ps at hps lp notI full inO
  have part : ∀ k, LInv I ([] ++ ps.take k) ((ps.take k).foldl stepL [I]) := fun k => LInv.all _ (LInv.one ia) (hps.1.sublist (List.take_sublist _ _)) fun p hp => notI p (List.mem_of_mem_take hp)
  have plen : ∀ k, ((ps.take k).foldl stepL [I]).length ≤ 4096 := fun k => by
    rw [fold_len, List.length_singleton, Nat.mul_one]
    have h1 : (ps.take k).length ≤ 12 := by rw [List.length_take]; omega
    exact Nat.le_trans (Nat.pow_le_pow_right (by decide) h1) (by decide)
  have plot : ∀ k, ∀ l ∈ (ps.take k).foldl stepL [I], LotIn n l := fun k l hl => by
    obtain ⟨a, b, c⟩ := ((part k).iff l).mp hl
    exact ⟨asc_nd a, fun x hx => (c x hx).elim (hI.2 x) fun z => hps.2 x (List.mem_of_mem_take (by simpa using z))⟩
  have pl12 : ∀ k, ∀ l ∈ (ps.take k).foldl stepL [I], l.length ≤ 24 := fun k l hl => by
    obtain ⟨a, b, c⟩ := ((part k).iff l).mp hl
    have q := nd_len (m := I ++ ps) (asc_nd a) fun x hx => (c x hx).elim (List.mem_append_left _) fun z => List.mem_append_right _ (List.mem_of_mem_take (by simpa using z))
    rw [List.length_append] at q
    omega
  refine sd_cons (sd_asgd (d := .list ([I].map eU)) (ed_l1 (ed_var rfl)) ?_)
  refine sd_mid (fun δ' => ∃ s1 s2 : Sl, δ' = [.sh (eU I), .sh (eU O), .sh (.list ((ps.foldl stepL [I]).map eU)), s1, s2]) (sd_ford (ds := ps.map PyData.int) (fun k δ' => ∃ s1 s2 : Sl, δ' = [.sh (eU I), .sh (eU O), .sh (.list (((ps.take k).foldl stepL [I]).map eU)), s1, s2]) (wd_tup (ed_cX (ea_cons (ed_var rfl) (ea_cons (ed_var rfl) ea_nil)) (w_minus (S := O) (T := I) (by omega) (.inr rfl) (.inr rfl) (by rw [hP]; rfl)) hE)) ⟨_, _, rfl⟩ ?_ ?_) ?_
  · rintro k d _ hk ⟨s1, s2, rfl⟩
    rw [List.getElem?_map] at hk
    cases hx : ps[k]? with
    | none => rw [hx] at hk; cases hk
    | some p =>
      rw [hx] at hk
      cases hk
      have hp := List.mem_of_getElem? hx
      have tk : ps.take (k + 1) = ps.take k ++ [p] := by rw [List.take_add_one, hx]; rfl
      refine ⟨_, _, gd_name, sd_asgd (d := .list ((((ps.take k).foldl stepL [I]).map eU) ++ (((ps.take k).foldl stepL [I]).map fun l => eU (srt (l ++ [p]))))) (ed_cat (ed_var rfl) (EL.edd (el_mapx ((ps.take k).foldl stepL [I]) eU (fun x y e => eU_inj e) (fun l => eU (srt (l ++ [p]))) (wd_list (ed_var rfl)) (fun l hl => ⟨_, _, gd_name, by simp, ed_cX0 (ea_cons (ed_var rfl) (ea_cons (d := eU [p]) (ed_tup (ea_cons (ed_var rfl) ea_nil) (by show 1 ≤ 100000; omega)) ea_nil)) (w_bothB (xs := l) (ys := [p]) (b1 := 24) (b2 := 1) (fun c h => Nat.le_trans h.1 (pl12 k l hl)) (fun c h => h.1) (by omega) (by have := pl12 k l hl; omega) (by show 1 ≤ 60; omega) (.inr rfl) (.inr rfl) fun out h1 h2 => ?_)⟩) (by have := plen k; omega))) (by rw [List.length_map, List.length_map]; have := plen k; omega)) ⟨.sh (.int p), s2, ?_⟩⟩
      · have np : p ∉ l := fun z => by
          obtain ⟨_, _, c⟩ := ((part k).iff l).mp hl
          rcases c p z with w | w
          · exact (notI p hp).1 w
          · have w : p ∈ ps.take k := by simpa using w
            obtain ⟨j, hj, e⟩ := List.mem_iff_getElem.mp w
            obtain ⟨h5, h6⟩ := List.getElem?_eq_some_iff.mp hx
            rw [List.getElem_take] at e
            rw [List.length_take] at hj
            exact List.pairwise_iff_getElem.mp hps.1 j k (by omega) h5 (by omega) (e.trans h6.symm)
        show eU out = eU (srt (l ++ [p]))
        congr 1
        refine asc_eq h1 (put_asc (((part k).iff l).mp hl).1 np) fun x => ?_
        rw [h2, mem_put, List.mem_singleton]
      · rw [tk, List.foldl_append, List.foldl_cons, List.foldl_nil, stepL, List.map_append, List.map_map]
        rfl
  · rintro _ ⟨s1, s2, rfl⟩
    rw [List.length_map, List.take_length]
    exact ⟨_, _, rfl⟩
  · rintro _ ⟨s1, s2, rfl⟩
    have pl := plen ps.length
    have pt := plot ps.length
    rw [List.take_length] at pl pt
    refine sd_ret (Pd := P) (ed_cX (ea_cons (ed_var rfl) ea_nil) (w_by_size T (by omega) (fun l hl => by have := pl12 ps.length l (by rw [List.take_length]; exact hl); omega) (pr _ ⟨(srtL_perm _).nodup_iff.mpr full.nd, fun l => ?_, srtL_sorted _, by rw [srtL_len]; exact pl⟩)) hE) fun d p => p
    rw [mem_srtL, full.iff]
    simp only [inO]
theorem w_need_listed {k : Int} (h : i ≤ k) (p : P .none) : W_need_listed K a [.int i, .int k] P R := fun B E hE =>
  sd_ifd (x := false) ((et_test (ed_opb (ed_var rfl) (ed_var rfl))).is (decide_eq_false (by omega))) (fun h => by cases h) (fun _ => sd_next p)
theorem x_need_listed {k : Int} (er : a.er "TooMany" = true) (h : k < i) (r : R (a.ec "TooMany") [("size", .int i)]) : W_need_listed K a [.int i, .int k] P R := fun B E hE =>
  sd_ifd (x := true) ((et_test (ed_opb (ed_var rfl) (ed_var rfl))).is (decide_eq_true h)) (fun _ => by rw [er]; exact sd_rz (ed_var rfl) (.i _) hE r) (fun h => by cases h)
end
end PL
namespace PL
variable [DL.Tb]
open PySem PySem.Spec PyProof.Rows L2 Evl DL FL
section
variable {K : PySem.W.Frag} {a : Ad} {B : Base} {δ : En} {te ta tb tc : TE} {E : XK} {P : Pd} {R : XR} {C : Addr} {Pl : List PyData → Prop} {two : Bool} {n : Nat} {ts ps : List (Int × Int)} {us rs l row S T I O xs ys : List Int} {L ls : List (List Int)} {d dl dh dr ds_ x d1 d2 : PyData} {ds tl : List PyData} {i j : Int}
abbrev allN (n : Nat) : List Int := (List.range n).map fun i : Nat => (i : Int)
theorem mem_all {x : Int} : x ∈ allN n ↔ 0 ≤ x ∧ x < n := by
  rw [List.mem_map]
  constructor
  · rintro ⟨i, hi, rfl⟩
    have := List.mem_range.mp hi
    omega
  · intro h
    exact ⟨x.toNat, List.mem_range.mpr (by omega), by omega⟩
theorem LotsB.lot (h : LotsB I (allN n) L) (hI : LotIn n I) : ∀ l ∈ L, LotIn n l := fun l hl => by
  obtain ⟨a, b, c⟩ := (h.iff l).mp hl
  exact ⟨asc_nd a, fun x hx => (c x hx).elim (hI.2 x) fun z => mem_all.mp z⟩
end
end PL
namespace PL
variable [DL.Tb]
open PySem PySem.Spec PyProof.Rows L2 Evl DL
theorem sd_at {K : PySem.W.Frag} {B : Base} {t : TS} {δ δ2 : En} {P : Po} (e : δ = δ2) (h : SD K B t δ2 P) : SD K B t δ P := by rw [e]; exact h
section
variable {K : PySem.W.Frag} {B : Base} {X : XK} {a : Ad} {P : Pd} {R : XR} {two : Bool} {n m : Nat} {ts : List (Int × Int)} {us is l row S T L : List Int} {δ : En} {te t1 t2 t3 : TE} {d dl x : PyData} {i j : Int}
theorem ed_l3 {x1 x2 x3 : PyData} (h1 : ED K B t1 δ (· = x1)) (h2 : ED K B t2 δ (· = x2)) (h3 : ED K B t3 δ (· = x3)) : ED K B (tLst (tCons t1 (tCons t2 (tCons t3 tNil)))) δ (· = .list [x1, x2, x3]) := EL.edd (el_lst (ea_cons h1 (ea_cons h2 (ea_cons h3 ea_nil))) (by show 3 ≤ 100000; omega))
theorem ed_copy {k : Nat} {l : List Int} (h : δ[k]? = some (.sh (eIs l))) : ED K B (tCB (rListQ K) (tCons (tVar k) tNil)) δ (· = eIs l) := EL.edd (el_cb (ds := [.list (l.map PyData.int)]) (ea_cons (ed_var h) ea_nil) cl_listL)
theorem x_good_world_no {m : Int} {d : PyData} (er : a.er "BadWorld" = true) (hp : plainB d = true) (hd : isRowD d = false) (r : R (a.ec "BadWorld") [("at", .int (-1))]) : W_good_world K a [.int m, d] P R := fun B E hE =>
  sd_cons (sd_ifd (x := true) (et_or (a := true) (b := true) ((et_not (et_B (ed_isRow hp (ed_var rfl)))).is (by rw [hd]; rfl)) fun h => by cases h) (fun _ => by rw [er]; exact sd_rz (ed_neg ed_int) (.i _) hE r) (fun h => by cases h))
end
end PL
namespace PL
variable [DL.Tb]
open PySem PySem.Spec PyProof.Rows L2 Evl DL FL
section
variable {K : PySem.W.Frag} {a : Ad} {B : Base} {δ : En} {te ta tb tc : TE} {E : XK} {P : Pd} {Pl : List PyData → Prop} {R : XR} {C : Addr} {two : Bool} {n : Nat} {ts ps : List (Int × Int)} {us rs l row S T I O xs ys : List Int} {L ls : List (List Int)} {d dl dh dr ds_ x d1 d2 : PyData} {ds tl : List PyData} {i j : Int}
end
end PL
namespace PL
variable [DL.Tb]
open PySem PySem.Spec PyProof.Rows L2 Evl DL
section
variable {K : PySem.W.Frag} {B : Base} {X : XK} {a : Ad} {P : Pd} {R : XR} {two : Bool} {n m : Nat} {ts : List (Int × Int)} {us is l row S T L : List Int} {ls : List (List Int)} {δ : En} {te t1 t2 t3 : TE} {d dl x : PyData} {i j : Int}
theorem d_cat1 {l k : List Int} (h : ED K B t1 δ (· = eIs l)) (h2 : ED K B t2 δ (· = eIs k)) (hz : l.length + k.length ≤ 90000) : ED K B (tOp rCat t1 t2) δ (· = eIs (l ++ k)) := (ed_cat (xs := l.map PyData.int) (ys := k.map PyData.int) h h2 (by rw [List.length_map, List.length_map]; exact hz)).is (by rw [← List.map_append]; rfl)
theorem cmp_Us : Cmp 2 (.list (ls.map eU)) := cmp_list fun x hx => by
  obtain ⟨y, _, rfl⟩ := List.mem_map.mp hx
  exact cmp_tints
end
end PL
namespace PL
variable [DL.Tb]
open PySem PySem.Spec PyProof.Rows L2 Evl DL
section
variable {K : PySem.W.Frag} {B : Base} {X : XK} {a : Ad} {P : Pd} {two : Bool} {n m : Nat} {ts : List (Int × Int)} {us is l row S T : List Int} {δ : En} {tt tu : TT} {te : TE} {d dr dl : PyData}
theorem cut_fr (l : List PyData) : DL.cutD l (some 1) none = l.drop 1 := by
  unfold DL.cutD
  cases l with
  | nil => rfl
  | cons x xs => simp [HT.sIx]
theorem cut_frN {l : List PyData} {k : Nat} (h : k ≤ l.length) : DL.cutD l (some (k : Int)) none = l.drop k := by
  unfold DL.cutD
  have e : HT.sIx l.length 0 (some (k : Int)) = min k l.length := HT.sIx_nat (n := l.length) (d := 0) (k := k)
  rw [e, HT.sIx_none, Nat.min_eq_left h, List.take_of_length_le (by rw [List.length_drop]; omega)]
end
end PL
namespace PL
variable [DL.Tb]
open PySem PySem.Spec PyProof.Rows L2 Evl DL
section
variable {K : PySem.W.Frag} {a : Ad} {B : Base} {δ : En} {te ta tb tc : TE} {E : XK} {P : Pd} {Pl : List PyData → Prop} {R : XR} {C : Addr} {two : Bool} {n m : Nat} {ts ps : List (Int × Int)} {us rs l row S T I O xs ys : List Int} {L : List (List Int)} {d dl dh dr ds_ x d1 d2 : PyData} {ds tl : List PyData} {i j : Int}
end
end PL
namespace PL
variable [DL.Tb]
open PySem PySem.Spec PyProof.Rows L2 Evl DL FL
structure RFlow (two : Bool) (ts : List (Int × Int)) (us S T row : List Int) : Prop where
  len : row.length = ts.length
  cap : ∀ t, t < ts.length → loB two (us.getD t 0) ≤ row.getD t 0 ∧ row.getD t 0 ≤ us.getD t 0
  loop : ∀ t, t < ts.length → (ts.getD t (0, 0)).1 = (ts.getD t (0, 0)).2 → row.getD t 0 = 0
  src : ∀ p ∈ S, 0 ≤ ledL ts row ts.length p
  snk : ∀ p ∈ T, ledL ts row ts.length p ≤ 0
  keep : ∀ p, p ∉ S → p ∉ T → ledL ts row ts.length p = 0
section
variable {two : Bool} {n : Nat} {ts : List (Int × Int)} {us S T row l here there : List Int} {r : Nat → Int} {p : Int}
def roomR (two : Bool) (us row : List Int) : Nat → Int := fun e => if e % 2 = 0 then us.getD (e / 2) 0 - row.getD (e / 2) 0 else (if two = true then us.getD (e / 2) 0 else 0) + row.getD (e / 2) 0
theorem roomR_row {t : Nat} : (netN two ts us).row (roomR two us row) t = row.getD t 0 := by
  unfold Nt.row roomR
  rw [if_pos (by omega), show 2 * t / 2 = t by omega]
  simp only [netN]
  omega
theorem RFlow.ok (h : RFlow two ts us S T row) : Ok (netN two ts us) (roomR two us row) where
  pair := fun t ht => by
    unfold roomR Nt.back
    rw [if_pos (by omega), if_neg (by omega), show 2 * t / 2 = t by omega, show (2 * t + 1) / 2 = t by omega]
    show us.getD t 0 - row.getD t 0 + ((if two = true then us.getD t 0 else 0) + row.getD t 0) = us.getD t 0 + (if two = true then us.getD t 0 else 0)
    omega
  nn := fun e he => by
    have he : e < 2 * ts.length := he
    have c := h.cap (e / 2) (by omega)
    unfold roomR
    unfold loB at c
    cases two <;> simp at c ⊢ <;> split <;> omega
theorem RFlow.flow (h : RFlow two ts us S T row) (hT : ∀ x ∈ T, x ∈ here) : Flow (netN two ts us) (sb S) (sb here) (roomR two us row) := ⟨h.ok, fun p h1 h2 => by
  rw [← led_N (fun t _ => roomR_row.symm) p]
  exact h.keep p (of_decide_eq_false h1) fun z => of_decide_eq_false h2 (hT p z)⟩
theorem RFlow.kept (h : RFlow two ts us S T row) : Kept (netN two ts us) (sb S) (roomR two us row) where
  loop := fun t ht e => by
    have := h.loop t ht e
    unfold roomR
    rw [if_pos (by omega), show 2 * t / 2 = t by omega, this]
    simp only [netN]
    omega
  src := fun p hp => by
    rw [← led_N (fun t _ => roomR_row.symm) p]
    exact h.src p (of_decide_eq_true hp)
theorem led_both {p : Int} : ledL (back ts) row (back ts).length p + ledL ts row ts.length p = 0 := by
  unfold ledL
  rw [back_len, ← su_add]
  refine su_0 fun t _ => ?_
  rw [back_at]
  show (_ - _) + (_ - _) = (0 : Int)
  omega
theorem led_back {p : Int} : ledL (back ts) row (back ts).length p = -ledL ts row ts.length p := by
  have := led_both (ts := ts) (row := row) (p := p)
  omega
theorem RFlow.back (h : RFlow two ts us S T row) : RFlow two (back ts) us T S row where
  len := by rw [back_len]; exact h.len
  cap := fun t ht => h.cap t (by rw [back_len] at ht; exact ht)
  loop := fun t ht e => by
    rw [back_len] at ht
    rw [back_at] at e
    exact h.loop t ht e.symm
  src := fun p hp => by rw [led_back]; have := h.snk p hp; omega
  snk := fun p hp => by rw [led_back]; have := h.src p hp; omega
  keep := fun p h1 h2 => by rw [led_back, h.keep p h2 h1]; rfl
end
end PL
namespace PL
variable [DL.Tb]
open PySem PySem.Spec PyProof.Rows L2 Evl DL
inductive Pt5 where
  | w (s : Str)
  | f
  | is (c : Str) (b : Bool)
  | isT (cs : List Str) (b : Bool)
  | ity (n : String) (b : Bool)
  | tw (s : Str)
  deriving DecidableEq
structure Cl5 where
  cls : Str
  fld : Str
  i : Nat
  bare : Bool
  pts : List Pt5
  deriving DecidableEq
def clsTA (a : Ad) : List Str → TA
  | [] => tNil
  | c :: cs => tCons (tC (.ref (a.ec c))) (clsTA a cs)
def partTE (K : PySem.W.Frag) (a : Ad) (C f : Str) (i : Nat) (ea : Addr) (cls : Value) (d : Option Addr) : Pt5 → TE
  | .w s => tC (.str s)
  | .f => tXf ea cls d (a.ec C) f (tVar i)
  | .is c _ => tCB (rIsEx K ea cls d) (tCons (tVar i) (tCons (tC (.ref (a.ec c))) tNil))
  | .ity n _ => tCB (rIsEx K ea cls d) (tCons (tVar i) (tCons (tC (.ty n)) tNil))
  | .tw s => tTup (tCons (tC (.str s)) (tCons (tXf ea cls d (a.ec C) f (tVar i)) tNil))
  | .isT cs _ => tCB (rIsEdT K ea cls d) (tCons (tVar i) (tCons (tTup (clsTA a cs)) tNil))
def partsTA (K : PySem.W.Frag) (a : Ad) (C f : Str) (i : Nat) (ea : Addr) (cls : Value) (d : Option Addr) : List Pt5 → TA
  | [] => tNil
  | p :: ps => tCons (partTE K a C f i ea cls d p) (partsTA K a C f i ea cls d ps)
def partD (d : PyData) : Pt5 → PyData
  | .w s => .str s
  | .f => d
  | .is _ b => .bool b
  | .isT _ b => .bool b
  | .ity _ b => .bool b
  | .tw s => .tuple [.str s, d]
def told5 (x : Cl5) (d : PyData) : PyData := if x.bare then (match x.pts with | p :: _ => partD d p | [] => .none) else .list (x.pts.map (partD d))
def te5 (K : PySem.W.Frag) (a : Ad) (x : Cl5) (ea : Addr) (cls : Value) (d : Option Addr) : TE := if x.bare then (match x.pts with | p :: _ => partTE K a x.cls x.fld x.i ea cls d p | [] => tC .non) else tLst (partsTA K a x.cls x.fld x.i ea cls d x.pts)
def cls5 (K : PySem.W.Frag) (j : Nat) (a : Ad) (x : Cl5) : Cls1 := ⟨.ref (a.ec x.cls), x.i, fun ea cls d => tAsg (te5 K a x ea cls d) (gName j)⟩
def PtOk (K : PySem.W.Frag) (a : Ad) (C : Str) : Pt5 → Prop
  | .w _ => True
  | .f => True
  | .is c b => L2.ExcC K (a.ec C) ∧ PySem.W.kitOne K (.ref (a.ec C)) (.ref (a.ec c)) = some b
  | .ity n b => L2.ExcC K (a.ec C) ∧ PySem.W.kitOne K (.ref (a.ec C)) (.type n) = some b
  | .tw _ => True
  | .isT cs b => L2.ExcC K (a.ec C) ∧ cs.length ≤ 20 ∧ PySem.W.kitAny K (.ref (a.ec C)) (cs.map fun c => Value.ref (a.ec c)) = some b
def PtsOk (K : PySem.W.Frag) (a : Ad) (C : Str) : List Pt5 → Prop
  | [] => True
  | .w _ :: ps => PtsOk K a C ps
  | .f :: ps => PtsOk K a C ps
  | .tw _ :: ps => PtsOk K a C ps
  | p :: ps => PtOk K a C p ∧ PtsOk K a C ps
structure ExT5 (cl : List Cl5) (K : PySem.W.Frag) (a : Ad) : Prop where
  ex : ∀ x ∈ cl, ∀ y ∈ cl, PySem.W.exmOne K (.ref (a.ec x.cls)) (.ref (a.ec y.cls)) = some (decide (x = y))
  pt : ∀ x ∈ cl, PtsOk K a x.cls x.pts
theorem PtsOk.all {K : PySem.W.Frag} {a : Ad} {C : Str} : ∀ {ps : List Pt5}, PtsOk K a C ps → ∀ p ∈ ps, PtOk K a C p
  | p :: ps, h, q, hq => by
    have hh : PtOk K a C p ∧ PtsOk K a C ps := by
      cases p with
      | w s => exact ⟨trivial, h⟩
      | f => exact ⟨trivial, h⟩
      | is c b => exact h
      | isT cs b => exact h
      | ity n b => exact h
      | tw s => exact ⟨trivial, h⟩
    rcases List.mem_cons.mp hq with rfl | hq
    · exact hh.1
    · exact PtsOk.all hh.2 q hq
section
variable {K : PySem.W.Frag} {B : Base} {X : XK} {a : Ad} {P : Pd} {δ : En} {te : TE}
theorem clsTA_run {G H : Hp} {σ : L2.St} {Q : List V → Hp → Prop} : ∀ {cs : List Str}, Q (cs.map fun c => V.ref (a.ec c)) H → clsTA a cs σ H Q
  | [], q => q
  | c :: cs, q => clsTA_run (G := G) (Q := fun vs H' => Q (V.ref (a.ec c) :: vs) H') (cs := cs) q
theorem cls_paired {cs : List Str} : Paired ClsV (cs.map fun c => V.ref (a.ec c)) (cs.map fun c => Value.ref (a.ec c)) := by
  induction cs with
  | nil => exact .nil
  | cons c cs ih => exact .cons (.own _) ih
theorem part_run {C f : Str} {i : Nat} {p0 dd : Addr} {v : V} {d : PyData} {G H : Hp} {σ : L2.St} {Q : V → Hp → Prop} {p : Pt5} (ok : PtOk K a C p) (I : Iv B G H) (hs : σ[i]? = some (some (.ref p0))) (hdd : H dd = some (.xd [(f, v)])) (rv : Rp K G v d)
    (q : ∀ z G' H', Gm B G H G' H' → H' dd = some (.xd [(f, v)]) → Rp K G' z (partD d p) → Q z H') : partTE K a C f i p0 (.ref (a.ec C)) (some dd) p σ H Q := by
  cases p with
  | w s => exact q _ G H (Gm.refl I.gh) hdd (.str s)
  | f => exact ⟨.ref p0, hs, rfl, rfl, dd, _, v, rfl, hdd, by simp, q v G H (Gm.refl I.gh) hdd rv⟩
  | ity n b => exact ⟨.ref p0, hs, .inl ⟨.ty n, .type n, b, a.ec C, dd, _, rfl, rfl, hdd, ok.1, rfl, fun u r => r, ok.2, q _ G H (Gm.refl I.gh) hdd (.bl b)⟩⟩
  | tw s =>
    refine ⟨.ref p0, hs, rfl, rfl, dd, _, v, rfl, hdd, by simp, ⟨by show 2 ≤ 2 ^ 24; decide, fun tp htp => ?_⟩⟩
    have m := Gm.new (o := .tup [.str s, v]) I htp
    exact q (.ref tp) _ _ m (by rw [upd_ne (ne_of_none hdd htp)]; exact hdd) (.tup upd_same (.cons (.str s) (.one (rv.mono m.gg))))
  | is c b => exact ⟨.ref p0, hs, .inl ⟨.ref (a.ec c), .ref (a.ec c), b, a.ec C, dd, _, rfl, rfl, hdd, ok.1, rfl, fun u r => r, ok.2, q _ G H (Gm.refl I.gh) hdd (.bl b)⟩⟩
  | isT cs b =>
    refine ⟨.ref p0, hs, clsTA_run (G := G) ⟨?_, fun tp htp => ?_⟩⟩
    · rw [List.length_map]
      exact Nat.le_trans ok.2.1 (by show 20 ≤ 2 ^ 24; decide)
    · have m := Gm.newH (o := .tup (cs.map fun c => V.ref (a.ec c))) I htp
      have hd2 : upd H tp (.tup (cs.map fun c => V.ref (a.ec c))) dd = some (.xd [(f, v)]) := by rw [upd_ne (ne_of_none hdd htp)]; exact hdd
      exact ⟨tp, _, _, b, a.ec C, dd, _, rfl, rfl, hd2, ok.1, rfl, upd_same, cls_paired, ok.2.2, q _ G _ m hd2 (.bl b)⟩
theorem parts_run {C f : Str} {i : Nat} {p0 dd : Addr} {v : V} {d : PyData} {σ : L2.St} : ∀ {ps : List Pt5} {G H : Hp} {Q : List V → Hp → Prop}, (∀ p ∈ ps, PtOk K a C p) → Iv B G H → σ[i]? = some (some (.ref p0)) → H dd = some (.xd [(f, v)]) → Rp K G v d →
    (∀ zs G' H', Gm B G H G' H' → RpA K G' zs (ps.map (partD d)) → Q zs H') → partsTA K a C f i p0 (.ref (a.ec C)) (some dd) ps σ H Q
  | [], G, H, Q, _, I, _, _, _, q => q [] G H (Gm.refl I.gh) .nil
  | p :: ps, G, H, Q, ok, I, hs, hdd, rv, q => part_run (ok p List.mem_cons_self) I hs hdd rv fun z G' H' m hd2 rz => parts_run (ps := ps) (fun p hp => ok p (List.mem_cons_of_mem _ hp)) (I.at m) hs hd2 (rv.mono m.gg) fun zs G2 H2 m2 rzs => q (z :: zs) G2 H2 (m.trans m2 I) (.cons (rz.mono m2.gg) rzs)
theorem wNm_hit5 {j : Nat} {Wo : WX} {D : Ends} {x : Cl5} {dd : Option Addr} {σ : L2.St} {H : Hp} : ∀ L : List Cl5, x ∈ L → (∀ y ∈ L, PySem.W.exmOne K (.ref (a.ec x.cls)) (.ref (a.ec y.cls)) = some (decide (x = y))) →
    (∀ p, H p = none → (cls5 K j a x).ts p (.ref (a.ec x.cls)) dd (gone D x.i) (σ.set x.i (some (.ref p))) H) → wNm K Wo D (L.map (cls5 K j a)) (.ref (a.ec x.cls)) dd σ H
  | [], h, _, _ => nomatch h
  | y :: L, h, e, k => by
    refine ⟨_, e y List.mem_cons_self, fun c p hp => ?_, fun c => ?_⟩
    · have c := of_decide_eq_true c
      subst c
      exact k p hp
    · have c := of_decide_eq_false c
      exact wNm_hit5 L ((List.mem_cons.mp h).elim (fun z => absurd z c) id) (fun z hz => e z (List.mem_cons_of_mem _ hz)) k
theorem hit5 {cl : List Cl5} {j : Nat} {x : Cl5} {d : PyData} {D : Ends} {G H : Hp} {σ : L2.St} (T : ExT5 cl K a) (hx : x ∈ cl) (Ev : EnvD K B G H σ δ) (hi : δ[x.i]? = some .no) (ij : x.i ≠ j) (nj : δ[j]? ≠ none) (hb : x.bare = true → ∃ p, x.pts = [p]) (hz : x.pts.length ≤ 1000)
    (nx : ∀ G' H' σ', Ex G G' → EnvD K B G' H' σ' (δ.set j (.sh (told5 x d))) → D.nx σ' H') :
    ∀ fs dd G' H', FsR K G' fs [(x.fld, d)] → Gm B G H G' H' → XdAt H' dd fs → wNm K (fun _ _ _ _ => False) D (cl.map (cls5 K j a)) (.ref (a.ec x.cls)) dd σ H' := by
  rintro fs dd G' H' hf mm hdd
  refine wNm_hit5 (K := K) (a := a) cl hx (fun y hy => T.ex x hx y hy) fun p hp => ?_
  have E' := Ev.at mm
  have hl : x.i < σ.length := by rw [E'.len]; exact (List.getElem?_eq_some_iff.mp hi).1
  obtain ⟨v, rfl, rv⟩ := fsr_one hf
  obtain ⟨dd, rfl⟩ : ∃ a, dd = some a := by
    cases dd with
    | none => cases hdd
    | some a => exact ⟨a, rfl⟩
  have hdd : H' dd = some (.xd _) := hdd
  have h7 : (σ.set x.i (some (.ref p)))[x.i]? = some (some (.ref p)) := by rw [List.getElem?_set]; simp [hl]
  have fin : ∀ (z : V) (G2 H2 : Hp), Gm B G' H' G2 H2 → Rp K G2 z (told5 x d) → D.nx (((σ.set x.i (some (.ref p))).set j (some z)).set x.i none) H2 := fun z G2 H2 mg rz => by
    have E2 := (((E'.at mg).setNo x.i (some (.ref p))).set j (v := z) (d := told5 x d) rz).setNo x.i none
    rw [set_no hi, set_no (i := x.i) (δ := δ.set j (.sh (told5 x d))) (by rw [List.getElem?_set_ne (fun z => ij z.symm)]; exact hi)] at E2
    exact nx _ _ _ (mm.gg.trans mg.gg) E2
  show tAsg (te5 K a x p (.ref (a.ec x.cls)) (some dd)) (gName j) (gone D x.i) (σ.set x.i (some (.ref p))) H'
  cases hbr : x.bare with
  | true =>
    obtain ⟨p1, hp1⟩ := hb hbr
    have e1 : te5 K a x p (.ref (a.ec x.cls)) (some dd) = partTE K a x.cls x.fld x.i p (.ref (a.ec x.cls)) (some dd) p1 := by unfold te5; rw [if_pos hbr, hp1]
    have e2 : told5 x d = partD d p1 := by unfold told5; rw [if_pos hbr, hp1]
    rw [e1]
    exact part_run (PtsOk.all (T.pt x hx) p1 (by rw [hp1]; simp)) E'.iv h7 hdd rv fun z G2 H2 m _ rz => fin z G2 H2 m (by rw [e2]; exact rz)
  | false =>
    have e1 : te5 K a x p (.ref (a.ec x.cls)) (some dd) = tLst (partsTA K a x.cls x.fld x.i p (.ref (a.ec x.cls)) (some dd) x.pts) := by unfold te5; rw [if_neg (by rw [hbr]; decide)]
    have e2 : told5 x d = .list (x.pts.map (partD d)) := by unfold told5; rw [if_neg (by rw [hbr]; decide)]
    rw [e1]
    refine parts_run (PtsOk.all (T.pt x hx)) E'.iv h7 hdd rv fun zs G2 H2 m rz => ⟨?_, fun q hq => ?_⟩
    · have := rz.length
      rw [List.length_map] at this
      exact Nat.le_trans (show zs.length ≤ 1000 by omega) (by show 1000 ≤ 2 ^ 24; decide)
    · have m2 := Gm.new (o := .lst zs) (E'.at m).iv hq
      exact fin (.ref q) _ _ (m.trans m2 E'.iv) (by rw [e2]; exact .lst upd_same (rz.mono m2.gg))
theorem sd_try5 {cl : List Cl5} {j : Nat} {x : Cl5} {d : PyData} {t : WX → TS} {Po' : Po} (T : ExT5 cl K a) (hx : x ∈ cl) (hi : δ[x.i]? = some .no) (ij : x.i ≠ j) (nj : δ[j]? ≠ none) (hb : x.bare = true → ∃ p, x.pts = [p]) (hz : x.pts.length ≤ 1000) (h : Ref K B t δ (a.ec x.cls) [(x.fld, d)])
    (kk : Po'.nx (δ.set j (.sh (told5 x d)))) :
    SD K B (fun D σ H => (fun W' : WX => t W') (wNm K (fun _ _ _ _ => False) D (cl.map (cls5 K j a))) D σ H) δ Po' := fun G H σ D Ev nx _ _ _ =>
  h G H σ D _ Ev fun fs dd G' H' hf J hdd => hit5 T hx Ev hi ij nj hb hz (fun G' H' σ' ex E' => nx _ G' H' σ' kk ex E') fs dd G' H' hf J hdd
def nfP : Pt5 → Bool
  | .w _ => true
  | .is _ _ => true
  | .ity _ _ => true
  | _ => false
theorem part_runN {C f : Str} {i : Nat} {p0 : Addr} {dd : Option Addr} {G H : Hp} {σ : L2.St} {Q : V → Hp → Prop} {p : Pt5} (ok : PtOk K a C p) (nf : nfP p = true) (I : Iv B G H) (hs : σ[i]? = some (some (.ref p0))) (hdd : XdAt H dd [])
    (q : ∀ z, Rp K G z (partD .none p) → Q z H) : partTE K a C f i p0 (.ref (a.ec C)) dd p σ H Q := by
  cases p with
  | w s => exact q _ (.str s)
  | is c b =>
    refine ⟨.ref p0, hs, ?_⟩
    cases dd with
    | none => exact .inr ⟨_, rfl, rfl, ok.1, .ref (a.ec c), .ref (a.ec c), b, rfl, fun u r => r, ok.2, q _ (.bl b)⟩
    | some dd => exact .inl ⟨.ref (a.ec c), .ref (a.ec c), b, a.ec C, dd, [], rfl, rfl, hdd, ok.1, rfl, fun u r => r, ok.2, q _ (.bl b)⟩
  | ity n b =>
    refine ⟨.ref p0, hs, ?_⟩
    cases dd with
    | none => exact .inr ⟨_, rfl, rfl, ok.1, .ty n, .type n, b, rfl, fun u r => r, ok.2, q _ (.bl b)⟩
    | some dd => exact .inl ⟨.ty n, .type n, b, a.ec C, dd, [], rfl, rfl, hdd, ok.1, rfl, fun u r => r, ok.2, q _ (.bl b)⟩
  | _ => cases nf
theorem parts_runN {C f : Str} {i : Nat} {p0 : Addr} {dd : Option Addr} {G H : Hp} {σ : L2.St} : ∀ {ps : List Pt5} {Q : List V → Hp → Prop}, (∀ p ∈ ps, PtOk K a C p) → (∀ p ∈ ps, nfP p = true) → Iv B G H → σ[i]? = some (some (.ref p0)) → XdAt H dd [] →
    (∀ zs, RpA K G zs (ps.map (partD .none)) → Q zs H) → partsTA K a C f i p0 (.ref (a.ec C)) dd ps σ H Q
  | [], Q, _, _, I, _, _, q => q [] .nil
  | p :: ps, Q, ok, nf, I, hs, hdd, q => part_runN (ok p List.mem_cons_self) (nf p List.mem_cons_self) I hs hdd fun z rz => parts_runN (ps := ps) (fun p hp => ok p (List.mem_cons_of_mem _ hp)) (fun p hp => nf p (List.mem_cons_of_mem _ hp)) I hs hdd fun zs rzs => q (z :: zs) (.cons rz rzs)
theorem sd_try5N {cl : List Cl5} {j : Nat} {x : Cl5} {t : WX → TS} {Po' : Po} (T : ExT5 cl K a) (hx : x ∈ cl) (hi : δ[x.i]? = some .no) (ij : x.i ≠ j) (nj : δ[j]? ≠ none) (hb : x.bare = true → ∃ p, x.pts = [p]) (hz : x.pts.length ≤ 1000) (nf : ∀ p ∈ x.pts, nfP p = true) (h : Ref K B t δ (a.ec x.cls) [])
    (kk : Po'.nx (δ.set j (.sh (told5 x .none)))) :
    SD K B (fun D σ H => (fun W' : WX => t W') (wNm K (fun _ _ _ _ => False) D (cl.map (cls5 K j a))) D σ H) δ Po' := fun G H σ D Ev nx _ _ _ =>
  h G H σ D _ Ev fun fs dd G' H' hf mm hdd => by
    have e0 : fs = [] := List.map_eq_nil_iff.mp hf.1
    subst e0
    refine wNm_hit5 (K := K) (a := a) cl hx (fun y hy => T.ex x hx y hy) fun p hp => ?_
    have E' := Ev.at mm
    have hl : x.i < σ.length := by rw [E'.len]; exact (List.getElem?_eq_some_iff.mp hi).1
    have h7 : (σ.set x.i (some (.ref p)))[x.i]? = some (some (.ref p)) := by rw [List.getElem?_set]; simp [hl]
    have fin : ∀ (z : V) (G2 H2 : Hp), Gm B G' H' G2 H2 → Rp K G2 z (told5 x .none) → D.nx (((σ.set x.i (some (.ref p))).set j (some z)).set x.i none) H2 := fun z G2 H2 mg rz => by
      have E2 := (((E'.at mg).setNo x.i (some (.ref p))).set j (v := z) (d := told5 x .none) rz).setNo x.i none
      rw [set_no hi, set_no (i := x.i) (δ := δ.set j (.sh (told5 x .none))) (by rw [List.getElem?_set_ne (fun z => ij z.symm)]; exact hi)] at E2
      exact nx _ _ _ _ kk (mm.gg.trans mg.gg) E2
    show tAsg (te5 K a x p (.ref (a.ec x.cls)) dd) (gName j) (gone D x.i) (σ.set x.i (some (.ref p))) H'
    cases hbr : x.bare with
    | true =>
      obtain ⟨p1, hp1⟩ := hb hbr
      have e1 : te5 K a x p (.ref (a.ec x.cls)) dd = partTE K a x.cls x.fld x.i p (.ref (a.ec x.cls)) dd p1 := by unfold te5; rw [if_pos hbr, hp1]
      have e2 : told5 x .none = partD .none p1 := by unfold told5; rw [if_pos hbr, hp1]
      rw [e1]
      exact part_runN (PtsOk.all (T.pt x hx) p1 (by rw [hp1]; simp)) (nf p1 (by rw [hp1]; simp)) E'.iv h7 hdd fun z rz => fin z _ _ (Gm.refl E'.iv.gh) (by rw [e2]; exact rz)
    | false =>
      have e1 : te5 K a x p (.ref (a.ec x.cls)) dd = tLst (partsTA K a x.cls x.fld x.i p (.ref (a.ec x.cls)) dd x.pts) := by unfold te5; rw [if_neg (by rw [hbr]; decide)]
      have e2 : told5 x .none = .list (x.pts.map (partD .none)) := by unfold told5; rw [if_neg (by rw [hbr]; decide)]
      rw [e1]
      refine parts_runN (PtsOk.all (T.pt x hx)) nf E'.iv h7 hdd fun zs rz => ⟨?_, fun q hq => ?_⟩
      · have := rz.length
        rw [List.length_map] at this
        exact Nat.le_trans (show zs.length ≤ 1000 by omega) (by show 1000 ≤ 2 ^ 24; decide)
      · have m2 := Gm.new (o := .lst zs) E'.iv hq
        exact fin (.ref q) _ _ m2 (by rw [e2]; exact .lst upd_same (rz.mono m2.gg))
end
end PL
namespace PL
variable [DL.Tb]
open PySem PySem.Spec PyProof.Rows L2 Evl DL FL
structure Shw (k w : Nat) (d : PyData) : Prop where
  cmp : Cmp k d
  sh : d.showable = true
  len : d.shown.length ≤ w
theorem Shw.le {k w k2 w2 : Nat} {d : PyData} (h : Shw k w d) (h1 : k ≤ k2) (h2 : w ≤ w2) : Shw k2 w2 d := ⟨⟨h.cmp.no, h.cmp.lay, Nat.le_trans h.cmp.dep h1⟩, h.sh, Nat.le_trans h.len h2⟩
theorem shw_int {k : Nat} {i : Int} (h : i.natAbs < 10 ^ 33) : Shw k 34 (.int i) := ⟨cmp_int, by
  rw [PyData.showable]
  exact decide_eq_true (log2_small (Nat.lt_trans h (by decide))), by
  have e := int_text_length_le10 (k := 33) (by decide) h
  show (Str.ofString (toString i)).length ≤ 34
  rw [PySem.ofString_length]
  exact e⟩
theorem shw_bl {k : Nat} {b : Bool} : Shw k 34 (.bool b) := ⟨cmp_bl, by rw [PyData.showable], by cases b <;> (show Str.length _ ≤ 34; decide)⟩
theorem shw_non {k : Nat} : Shw k 34 .none := ⟨cmp_non, by rw [PyData.showable], by show Str.length _ ≤ 34; decide⟩
theorem shw_str {k : Nat} {x : Str} (h : PyData.strOk x = true) (h2 : (PySem.reprText x).length ≤ 34) : Shw k 34 (.str x) := ⟨cmp_str h, by rw [PyData.showable], h2⟩
theorem shw_all {k w : Nat} : ∀ {xs : List PyData}, (∀ x ∈ xs, Shw k w x) → PyData.showableAll xs = true ∧ ((PyData.shownAll xs).map (·.length)).sum ≤ w * xs.length ∧ (PyData.shownAll xs).length = xs.length
  | [], _ => by simp [PyData.shownAll, PyData.showableAll]
  | x :: xs, h => by
    obtain ⟨h0, h1, h2⟩ := shw_all (xs := xs) fun y hy => h y (List.mem_cons_of_mem _ hy)
    have h3 := h x List.mem_cons_self
    have h4 := h3.len
    refine ⟨by rw [PyData.showableAll, h3.sh, h0]; rfl, ?_, by rw [PyData.shownAll, List.length_cons, h2, List.length_cons]⟩
    rw [PyData.shownAll, List.map_cons, List.sum_cons, List.length_cons, Nat.mul_succ]
    omega
theorem shw_list {k w z : Nat} {xs : List PyData} (h : ∀ x ∈ xs, Shw k w x) (hz : (w + 2) * xs.length + 3 ≤ z) : Shw (k + 1) z (.list xs) := by
  obtain ⟨h0, h1, h2⟩ := shw_all h
  have h3 := listText_len_le (PyData.shownAll xs)
  refine ⟨cmp_list fun x hx => (h x hx).cmp, by rw [PyData.showable]; exact h0, ?_⟩
  show (listText (PyData.shownAll xs)).length ≤ z
  rw [Nat.add_mul] at hz
  omega
theorem shw_ints {k : Nat} {l : List Int} (h : ∀ i ∈ l, i.natAbs < 10 ^ 33) (hl : l.length ≤ 40) : Shw (k + 1) 1500 (eIs l) := shw_list (k := k) (w := 34) (fun x hx => by
  obtain ⟨i, hi, rfl⟩ := List.mem_map.mp hx
  exact shw_int (h i hi)) (by rw [List.length_map]; omega)
theorem cd_shw {K : PySem.W.Frag} {k w : Nat} {d : PyData} (h : Shw k w d) (hk : k ≤ 64) (hw : w ≤ 100000) (hl : (∃ xs, d = .list xs) ∨ d = .none ∨ ∃ x, d = .str x) : CD K (rReprA K) [d] (· = .str d.shown) := cd_reprA h.cmp.no h.sh (PyData.hasDict_of_canLay _ h.cmp.lay) (Nat.le_trans h.cmp.dep hk) (Nat.le_trans h.len (by rw [sizeLine_eq]; omega)) hl
end PL
namespace PL
variable [DL.Tb]
open PySem PySem.Spec PyProof.Rows L2 Evl DL FL
section
variable {K : PySem.W.Frag} {a : Ad} {B : Base} {δ : En} {te ta tb tc : TE} {E : XK} {P : Pd} {R : XR} {C : Addr} {two : Bool} {n m : Nat} {ts ps : List (Int × Int)} {us rs l row S T xs ys here there : List Int} {d dl dh dr dt x d1 d2 : PyData} {ds tl : List PyData} {i j : Int}
theorem RFlow.mem {S2 T2 : List Int} (h : RFlow two ts us S T row) (hs : ∀ x, x ∈ S ↔ x ∈ S2) (ht : ∀ x, x ∈ T ↔ x ∈ T2) : RFlow two ts us S2 T2 row := ⟨h.len, h.cap, h.loop, fun p hp => h.src p ((hs p).mpr hp), fun p hp => h.snk p ((ht p).mpr hp), fun p h1 h2 => h.keep p (fun z => h1 ((hs p).mp z)) fun z => h2 ((ht p).mp z)⟩
end
end PL
namespace PL
variable [DL.Tb]
open PySem PySem.Spec PyProof.Rows L2 Evl DL FL
section
variable {K : PySem.W.Frag} {a : Ad} {B : Base} {δ : En} {te ta tb tc : TE} {tt tu : TT} {E : XK} {P : Pd} {R : XR} {C : Addr} {two : Bool} {n m : Nat} {ts ps : List (Int × Int)} {us rs l row S T xs ys : List Int} {d dl dh dr dt x d1 d2 d3 bad at_ : PyData} {ds tl : List PyData} {i j : Int}
def HandV (l : List Int) (d : PyData) : Prop := ∃ k : List Int, k.Perm l ∧ RowV (k.map PyData.int) d
theorem w_law_handed (hz : l.length ≤ 1000) {d : PyData} (hd : RowV (l.map PyData.int) d) (pr : ∀ e, HandV l e → P e) : W_law_handed K a [d] P := fun B => by
  refine sd_cons (sd_asgd (d := eIs l) (EL.edd (el_listS (ed_row rfl hd))) ?_)
  refine sd_mid (fun δ' => ∃ (k : List Int) (s3 : Sl), k.Perm l ∧ δ' = [.dr, .sh d, .sh (eIs k), s3]) (sd_ifd (et_test (ed_opb (ed_lenL (ed_var rfl)) ed_int)) (fun c => ?_) (fun _ => sd_next ⟨l, _, List.Perm.refl l, rfl⟩)) ?_
  · have c := of_decide_eq_true c
    rw [List.length_map] at c
    refine sd_cons (sd_asg (ed_take rfl (ed_lenL (ed_var rfl)) (by rw [List.length_map]; omega)) ?_)
    rintro _ ⟨r, ⟨r0, r1⟩, rfl⟩
    rw [List.length_map] at r1
    obtain ⟨r, rfl⟩ : ∃ q : Nat, r = (q : Int) := ⟨r.toNat, by omega⟩
    refine sd_asgd (d := eIs (l.drop r ++ l.take r)) (d_cat1 (l := l.drop r) (k := l.take r) (EL.edd (EL.imp (el_sl (ds := l.map PyData.int) (ed_var rfl) (eo_some (toI (ed_var rfl))) eo_none) fun es ⟨lo, hi, ⟨k, h2, h3⟩, h1, h4⟩ => ?_)) (EL.edd (EL.imp (el_sl (ds := l.map PyData.int) (ed_var rfl) eo_none (eo_some (toI (ed_var rfl)))) fun es ⟨lo, hi, h1, ⟨j, h2, h3⟩, h4⟩ => by rw [h4, h1, h3, h2, cut_to _ _ (by omega), Int.toNat_natCast, List.map_take])) (by rw [List.length_drop, List.length_take]; omega)) ⟨_, _, ?_, rfl⟩
    · rw [h4, h1, h3, h2, cut_frN (by rw [List.length_map]; omega), List.map_drop]
    · exact (List.perm_append_comm).trans (by rw [List.take_append_drop])
  rintro _ ⟨k, s3, hk, rfl⟩
  have kl := hk.length_eq
  refine sd_mid (fun δ' => ∃ k : List Int, k.Perm l ∧ δ' = [.dr, .sh d, .sh (eIs k), s3]) (sd_if (et_eqP (ed_take rfl ed_int (by decide)) (toI ed_int)) fun b _ => ?_) ?_
  · cases b with
    | true => exact sd_asgd (rev_eIs rfl) ⟨k.reverse, (List.reverse_perm k).trans hk, rfl⟩
    | false => exact sd_next ⟨k, hk, rfl⟩
  rintro _ ⟨k, hk, rfl⟩
  refine sd_cons (sd_if (et_eqP (ed_take rfl ed_int (by decide)) (toI ed_int)) fun b _ => ?_)
  cases b with
  | true => exact sd_retd (ed_tupL rfl) (pr _ ⟨k, hk, .inr rfl⟩)
  | false => exact sd_next (sd_retd (ed_var rfl) (pr _ ⟨k, hk, .inl rfl⟩))
theorem cmp_l2s {x : Str} {i : Int} (h : PyData.strOk x = true) : Cmp 1 (.list [.str x, .int i]) := cmp_list (k := 0) fun y hy => by
  simp only [List.mem_cons, List.not_mem_nil, or_false] at hy
  rcases hy with rfl | rfl
  · exact cmp_str h
  · exact cmp_int
theorem ed_l0 : ED K B (tLst tNil) δ (· = .list []) := EL.edd (el_lst ea_nil (Nat.zero_le _))
theorem lot_perm {k : List Int} (h : k.Perm l) (hl : LotIn n l) : LotIn n k := ⟨h.nodup_iff.mpr hl.1, fun x hx => hl.2 x (h.mem_iff.mp hx)⟩
structure Ends (n : Nat) (S T : List Int) : Prop where
  hS : LotIn n S
  hT : LotIn n T
  s0 : S ≠ []
  t0 : T ≠ []
  ap : ∀ p ∈ S, p ∉ T
end
end PL
namespace PL
variable [DL.Tb]
open PySem PySem.Spec PyProof.Rows L2 Evl DL FL
section
variable {two : Bool} {n : Nat} {ts ps : List (Int × Int)} {us S T l : List Int} {v : Int} {L M : List (List Int)}
end
section
variable {K : PySem.W.Frag} {a : Ad} {B : Base} {δ : En} {te ta tb tc : TE} {E : XK} {P : Pd} {R : XR} {C : Addr} {two : Bool} {n m : Nat} {ts ps : List (Int × Int)} {us rs l row S T xs ys : List Int} {d dl dh dr dt x d1 d2 d3 : PyData} {ds tl : List PyData} {i j : Int}
end
end PL
namespace PL
variable [DL.Tb]
open PySem PySem.Spec PyProof.Rows L2 Evl DL FL
def CapT (us : List Int) : Prop := ∀ u ∈ us, 0 ≤ u ∧ u ≤ 10 ^ 28 + 9
section
variable {two : Bool} {n k : Nat} {ts ps : List (Int × Int)} {us S T S2 T2 l : List Int} {v c A : Int} {L M : List (List Int)}
end
section
variable {K : PySem.W.Frag} {a : Ad} {B : Base} {δ : En} {te ta tb tc : TE} {E : XK} {P : Pd} {R : XR} {C : Addr} {two : Bool} {n m k : Nat} {ts ps : List (Int × Int)} {us rs l row S T xs ys : List Int} {L G : List (List Int)} {d dl dh dr dt x : PyData} {ds tl : List PyData} {i j c : Int}
theorem lot_nil : LotIn n [] := ⟨List.nodup_nil, fun x hx => by cases hx⟩
end
section
variable {K : PySem.W.Frag} {a : Ad} {B : Base} {δ : En}
theorem w_worldT {P : Pd} {m : Int} (m0 : 0 ≤ m) (m1 : m ≤ 1000) (pr : ∀ us : List Int, (us.length : Int) = m → CapT us → P (eIs us)) : W_law_world K a [.int m] P := fun B => by
  refine sd_cons (sd_asg (ed_take rfl ed_int (by decide)) ?_)
  rintro _ ⟨w, ⟨w0, w1⟩, rfl⟩
  refine sd_cons (sd_own (Pl := fun es => ∃ us : List Int, es = us.map PyData.int ∧ (us.length : Int) = m ∧ ∀ u ∈ us, 0 ≤ u ∧ u < 10) (EL.imp (el_lc (Pt := fun _ b => b = true) (Pe := fun _ => isI fun r => 0 ≤ r ∧ r < 10) (wd_rng1 (n := m) (ea_cons (ed_var rfl) ea_nil) (by omega) (by omega)) (fun es d e hd => ⟨_, _, gd_name, fun _ h => h, et_yes, fun _ => ed_take rfl ed_int (by decide)⟩) (fun es e => by rw [e, rngD_len]; omega)) ?_) ?_)
  · rintro es ⟨_, rfl, c⟩
    obtain ⟨us, h1, h2⟩ := ints_of es (c.all fun d e _ h => h)
    refine ⟨us, h1, ?_, h2⟩
    have q := c.full fun d _ h => by cases h
    rw [rngD_len, h1, List.length_map] at q
    omega
  rintro _ ⟨us, rfl, hl, hu⟩
  refine sd_mid (fun δ' => ∃ us : List Int, (us.length : Int) = m ∧ (∀ u ∈ us, 0 ≤ u ∧ u < 10) ∧ δ' = [.dr, .sh (.int m), .sh (.int w), .ow (us.map PyData.int), .no, .no, .no]) (sd_ifd (et_test (ed_opd (ed_var rfl) (ed_tup (ds := ([7, 8] : List Int).map PyData.int) (ea_cons ed_int (ea_cons ed_int ea_nil)) (Nat.le_of_ble_eq_true rfl)) rd_inT)) (fun _ => ?_) (fun _ => sd_next ⟨us, hl, hu, rfl⟩)) ?_
  · refine sd_freeze 3 rfl (sd_own (EL.imp (P' := (· = (us.map fun u => u / 5).map PyData.int)) (el_mapx us PyData.int int_inj (fun u => .int (u / 5)) (wd_list (ed_var rfl)) (fun u h => ⟨_, _, gd_name, fun _ h => h, ed_opc (ed_var rfl) ed_int ⟨by decide, by decide⟩⟩) (by omega)) (fun es e => by rw [e, List.map_map]; rfl)) ?_)
    rintro _ rfl
    refine ⟨_, by rw [List.length_map]; exact hl, fun u h => ?_, rfl⟩
    obtain ⟨v, h1, rfl⟩ := List.mem_map.mp h
    have := hu v h1
    omega
  rintro _ ⟨us, hl, hu, rfl⟩
  refine sd_mid (fun δ' => ∃ (us : List Int) (s : Sl), (us.length : Int) = m ∧ CapT us ∧ δ' = [.dr, .sh (.int m), .sh (.int w), .ow (us.map PyData.int), s, .no, .no]) (sd_ifd (et_and (et_test (ed_opd (ed_var rfl) ed_int (rd_eq rfl))) (fun _ => et_test (ed_opb (ed_var rfl) ed_int))) (fun c => ?_) (fun _ => sd_next ⟨us, .no, hl, fun u h => by have := hu u h; omega, rfl⟩)) ?_
  · have hm : 0 < m := by
      have := (Bool.and_eq_true_iff.mp c).2
      exact of_decide_eq_true this
    refine sd_cons (sd_asg (ed_take rfl (ed_var rfl) hm) ?_)
    rintro _ ⟨r, ⟨r0, r1⟩, rfl⟩
    obtain ⟨n, rfl⟩ : ∃ n : Nat, r = (n : Int) := ⟨r.toNat, by omega⟩
    have hn : n < us.length := by omega
    refine sd_store (ds := us.map PyData.int) (j := n) rfl (ed_opiP (p := fun i => 0 ≤ i ∧ i ≤ 10 ^ 28) (q := fun i => 0 ≤ i ∧ i < 10) (ED.imp (ed_ixP (ds := [.int (10 ^ (12 : Int).toNat), .int (10 ^ (12 : Int).toNat), .int (10 ^ (28 : Int).toNat), .int 40]) (EL.edd (el_lst (ea_cons (ed_opc ed_int ed_int ⟨by decide, by decide, by decide⟩) (ea_cons (ed_opc ed_int ed_int ⟨by decide, by decide, by decide⟩) (ea_cons (ed_opc ed_int ed_int ⟨by decide, by decide, by decide⟩) (ea_cons ed_int ea_nil)))) (Nat.le_of_ble_eq_true rfl))) (ed_take rfl ed_int (by decide)) fun i h => ⟨h.1, h.2⟩) ?_) (ed_ixOw (ds := us.map PyData.int) (Pi := (· = .int (n : Int))) rfl (ed_var rfl) ?_)) (ed_var rfl) (by rw [List.length_map]; exact hn) ?_
    · rintro d ⟨i, _, hd⟩
      have hm := List.mem_of_getElem? hd
      simp only [List.mem_cons, List.not_mem_nil, or_false] at hm
      rcases hm with rfl | rfl | rfl | rfl
      · exact ⟨_, by decide, rfl⟩
      · exact ⟨_, by decide, rfl⟩
      · exact ⟨_, by decide, rfl⟩
      · exact ⟨_, by decide, rfl⟩
    · rintro _ rfl
      exact ⟨n, .int us[n], rfl, atI_nat (by rw [List.getElem?_map, List.getElem?_eq_getElem hn]; rfl), us[n], hu _ (List.getElem_mem hn), rfl⟩
    · rintro _ ⟨_, ⟨a, b, ha, hb, rfl⟩, rfl⟩
      refine ⟨us.set n (a + b), _, by rw [List.length_set]; exact hl, fun u h => ?_, by rw [List.map_set]; rfl⟩
      rcases List.mem_or_eq_of_mem_set h with h | h
      · have := hu u h; omega
      · omega
  rintro _ ⟨us, s, hl, hu, rfl⟩
  exact sd_freeze 3 rfl (sd_retd (ed_var rfl) (pr us hl hu))
end
section
variable {two : Bool} {N k : Nat} {us M l : List Int} {v w : Int}
end
end PL
namespace PL
variable [DL.Tb]
open PySem PySem.Spec PyProof.Rows L2 Evl DL FL
section
variable {K : PySem.W.Frag} {B : Base} {δ : En} {a : Ad}
theorem et_neB {ta tb : TE} {p q : Bool} (h1 : ED K B ta δ (· = .bool p)) (h2 : ED K B tb δ (· = .bool q)) (e : p = q) : ET K B (tTest (tOp rNe ta tb)) δ (· = false) := by
  subst e
  exact (et_test (ed_opd h1 h2 (rd_ne rfl))).is (by simp [eqS])
end
end PL
namespace PL
variable [DL.Tb]
open PySem PySem.Spec PyProof.Rows L2 Evl DL FL
section
variable {n : Nat} {ts : List (Int × Int)} {us C W A X l : List Int} {p q : Int}
def btB (A C : List Int) (p : Int × Int) : Bool := (decide (p.1 ∈ A) && decide (p.2 ∈ C)) || (decide (p.1 ∈ C) && decide (p.2 ∈ A))
def amt (ts : List (Int × Int)) (us A C : List Int) : Int := sumAt us (ixL (btB A C) ts)
def minL (C W : List Int) : List Int := C.filter fun x => !decide (x ∈ W)
theorem mem_minL {x : Int} : x ∈ minL C W ↔ x ∈ C ∧ x ∉ W := by
  unfold minL
  rw [List.mem_filter]
  simp
theorem amt_su : amt ts us A C = su (List.range ts.length) fun t => if btB A C (ts.getD t (0, 0)) = true then us.getD t 0 else 0 := sumAt_su
theorem btB_mem {A' C' : List Int} (h : ∀ x, x ∈ A ↔ x ∈ A') (k : ∀ x, x ∈ C ↔ x ∈ C') : btB A C = btB A' C' := by
  funext p
  unfold btB
  simp only [h, k]
theorem amt_mem {A' C' : List Int} (h : ∀ x, x ∈ A ↔ x ∈ A') (k : ∀ x, x ∈ C ↔ x ∈ C') : amt ts us A C = amt ts us A' C' := by
  unfold amt
  rw [btB_mem h k]
theorem amt_comm : amt ts us A C = amt ts us C A := by
  unfold amt
  rw [show btB A C = btB C A from funext fun p => by unfold btB; exact Bool.or_comm ..]
theorem cls {x : Int} (h0 : 0 ≤ x) (h1 : x < n) (ws : ∀ x ∈ W, x ∈ C) : (x ∈ minL C W ↔ x ∈ C ∧ x ∉ W) ∧ (x ∈ restL n C ↔ x ∉ C) ∧ (x ∈ W → x ∈ C) := ⟨mem_minL, by rw [mem_restL]; exact ⟨fun h => h.2, fun h => ⟨⟨h0, h1⟩, h⟩⟩, ws x⟩
theorem minL_ok (hC : LotIn n C) : LotIn n (minL C W) := ⟨hC.1.filter _, fun x hx => hC.2 x (mem_minL.mp hx).1⟩
end
section
variable {n : Nat} {ts : List (Int × Int)} {us C W A X l : List Int} {p q : Int}
def partL (C X : List Int) : List Int := C.filter fun x => decide (x ∈ X)
end
end PL
namespace PL
variable [DL.Tb]
open PySem PySem.Spec PyProof.Rows L2 Evl DL FL
section
variable {n : Nat} {ts : List (Int × Int)} {us C W A X l : List Int} {p q : Int} {L : List (List Int)}
end
section
variable {N f m : Nat} {us C W A X : List Int}
def iv (f m : Nat) : List Int := (List.range m).map fun i : Nat => ((f + i : Nat) : Int)
end
end PL
namespace PL
variable [DL.Tb]
open PySem PySem.Spec PyProof.Rows L2 Evl DL FL
theorem nobt_net : ("between" : Str) ∉ nmNet := by decide +kernel
theorem r_between (K : PySem.W.Frag) (a : Ad) (two : Bool) : R_between K a (cC a two) (SpWX K 3 (W_Net_between K a)) := by cases two; exact .inl ⟨rfl, rfl⟩; exact .inr ⟨rfl, rfl⟩
section
variable {K : PySem.W.Frag} {a : Ad} {B : Base} {δ : En} {te ta tb tc td tf : TE} {tt tu : TT} {E : XK} {P : Pd} {Po' : Po} {R : XR} {Cc : Addr} {two : Bool} {n k : Nat} {ts ps : List (Int × Int)} {us vs ws rs l row S T S2 T2 xs ys is C W A X D : List Int} {L : List (List Int)} {d dl dh dr dt dw x d0 d1 d2 d3 d4 d5 : PyData} {ds tl : List PyData} {i j c b v m : Int}
theorem w_check_twoway (T0 : Nk K a) (p : P .none) : W_check_twoway K a [eNet (cC a true) n ts] P R := fun B E hE => by
  obtain ⟨u, k⟩ := T0.k true
  exact sd_ifd (x := false) ((et_test (ed_opd (ed_con (d := .str "twoway") (T0.n true).cl k nok_net (fun _ => .str _) (ed_var rfl)) ed_str (rd_ne rfl))).is (by simp [eqS])) (fun h => by cases h) (fun _ => sd_next p)
theorem x_check_twoway (T0 : Nk K a) (er : a.er "NotTwoway" = true) (r : R (a.ec "NotTwoway") []) : W_check_twoway K a [eNet (cC a false) n ts] P R := fun B E hE => by
  obtain ⟨u, k⟩ := T0.k false
  exact sd_ifd (x := true) ((et_test (ed_opd (ed_con (d := .str "oneway") (T0.n false).cl k nok_net (fun _ => .str _) (ed_var rfl)) ed_str (rd_ne rfl))).is (by show (!decide (("oneway" : Str) = "twoway")) = true; rw [decide_eq_false (by decide +kernel)]; rfl)) (fun _ => by rw [er]; exact sd_rz0 hE r) (fun h => by cases h)
theorem w_common (hS : S.length < 64) (hd : RowV (S.map PyData.int) d) (hd2 : RowV (T.map PyData.int) d2) (p : P (eU ((srt S).filter fun x => decide (x ∈ T)))) : W_common K a [d, d2] P R := fun B E hE => by
  have hz : (srt S).length = S.length := (srt_perm S).length_eq
  have hin : ∀ {δ : En} {x : Int}, δ[2]? = some (.sh (.int x)) → δ[1]? = some (.sh d2) → ED K B (tOp (rIn K false) (tVar 2) (tVar 1)) δ (· = .bool (decide (x ∈ T))) := fun h1 h2 => by
    rcases hd2 with rfl | rfl
    · exact (ed_opd (ed_var h1) (ed_var h2) (rd_inL (neg := false) (ns := T))).is rfl
    · exact (ed_opd (ed_var h1) (ed_var h2) (rd_inT (neg := false) (ns := T))).is rfl
  have hs : EL K B (tCB (rSortedQ K) (tCons (tVar 0) tNil)) (stD N_common [d, d2]) (fun es => ∃ ms : List Int, es = ms.map PyData.int ∧ ms.Perm S ∧ ms.Pairwise (· ≤ ·)) := el_cbP (Pa := fun es => ∃ x, RowV (S.map PyData.int) x ∧ es = [x]) ((ea_consP (ed_row (i := 0) rfl hd) ea_nil).imp fun es ⟨x, xs, h, e, q⟩ => ⟨x, h, by rw [q, e]⟩) (fun es ⟨x, h, e⟩ => by rw [e]; exact cl_sortedQ h hS)
  exact sd_retd (ed_cb (ds := [.list (((srt S).filter fun x => decide (x ∈ T)).map PyData.int)]) (ea_cons (EL.edd (el_lcx (srt S) PyData.int int_inj (fun x => decide (x ∈ T)) PyData.int (wd_list (EL.edd (EL.imp hs fun es ⟨ms, e, h1, h2⟩ => by rw [e, srt_eq h1 h2]))) (fun x hx => ⟨_, _, gd_name, by simp, et_test (hin rfl rfl), fun _ => ed_var rfl⟩) (by omega))) ea_nil) cd_tupL) p
end
end PL
namespace PL
variable [DL.Tb]
open PySem PySem.Spec PyProof.Rows L2 Evl DL FL
section
variable {two : Bool} {n k : Nat} {ts : List (Int × Int)} {us vs ws S T l : List Int} {v v1 v2 v3 v12 c m : Int}
theorem su_mul {α : Type} {f : α → Int} : ∀ {L : List α}, su L (fun x => m * f x) = m * su L f
  | [] => by rw [su_nil, su_nil, Int.mul_zero]
  | x :: L => by rw [su_cons, su_cons, su_mul (L := L), Int.mul_add]
end
section
variable {K : PySem.W.Frag} {a : Ad} {B : Base} {δ : En} {te ta tb tc : TE} {E : XK} {P : Pd} {R : XR} {C : Addr} {two : Bool} {n m k : Nat} {ts ps : List (Int × Int)} {us vs rs l row S T xs ys : List Int} {L G : List (List Int)} {d dl dh dr dt x d0 d1 d2 d3 d4 d5 : PyData} {ds tl : List PyData} {i j c : Int} {Pl : List PyData → Prop}
end
section
variable {K : PySem.W.Frag} {a : Ad} {B : Base} {δ : En} {te ta tb tc td tf : TE} {tt tu : TT} {E : XK} {P : Pd} {Po' : Po} {R : XR} {C : Addr} {two : Bool} {n m k : Nat} {ts ps : List (Int × Int)} {us vs ws rs l row S T S2 T2 xs ys is : List Int} {L G : List (List Int)} {d dl dh dr dt dw x d0 d1 d2 d3 d4 d5 : PyData} {ds tl : List PyData} {i j c b v v1 v2 v3 : Int}
end
end PL
namespace PL
variable [DL.Tb]
open PySem PySem.Spec PyProof.Rows L2 Evl DL FL
section
variable {K : PySem.W.Frag} {a : Ad} {B : Base} {δ : En} {te ta tb tc td tf : TE} {tt tu : TT} {E : XK} {P : Pd} {Po' : Po} {R : XR} {Cc : Addr} {two : Bool} {n k : Nat} {ts ps : List (Int × Int)} {us vs ws rs l row S T S2 T2 xs ys is C W A X D : List Int} {L : List (List Int)} {d dl dh dr dt dw x d0 d1 d2 d3 d4 d5 : PyData} {ds tl : List PyData} {i j c b v m : Int}
end
end PL
namespace PL
variable [DL.Tb]
open PySem PySem.Spec PyProof.Rows L2 Evl DL FL
section
variable {K : PySem.W.Frag} {a : Ad} {B : Base} {δ : En} {te ta tb tc td tf : TE} {tt tu : TT} {E : XK} {P : Pd} {Po' : Po} {R : XR} {Cc : Addr} {two : Bool} {n k : Nat} {ts ps : List (Int × Int)} {us vs ws rs l row S T S2 T2 xs ys is C W A X D : List Int} {L : List (List Int)} {d dl dh dr dt dw x d0 d1 d2 d3 d4 d5 : PyData} {ds tl : List PyData} {i j c b v m : Int}
end
end PL
namespace PL
variable [DL.Tb]
open PySem PySem.Spec PyProof.Rows L2 Evl DL FL
section
variable {K : PySem.W.Frag} {a : Ad} {B : Base} {δ : En} {te ta tb tc td tf : TE} {tt tu : TT} {E : XK} {P : Pd} {Po' : Po} {R : XR} {Cc : Addr} {two : Bool} {n k : Nat} {ts ps : List (Int × Int)} {us vs ws rs l row S T S2 T2 xs ys is C W A X D : List Int} {L : List (List Int)} {d dl dh dr dt dw x d0 d1 d2 d3 d4 d5 : PyData} {ds tl : List PyData} {i j c b v m : Int}
def nb (n : Nat) (C : List Int) (p : Int) : Int := if p ∈ C then (n : Int) - (C.length : Int) else ((restL n C).idxOf p : Int)
end
end PL
namespace PL
variable [DL.Tb]
open PySem PySem.Spec PyProof.Rows L2 Evl DL FL
section
variable {K : PySem.W.Frag} {a : Ad} {B : Base} {δ : En} {te ta tb tc td tf : TE} {tt tu : TT} {E : XK} {P : Pd} {Po' : Po} {R : XR} {Cc : Addr} {two : Bool} {n k : Nat} {ts ps : List (Int × Int)} {us vs ws rs l row S T S2 T2 xs ys is C W A X D : List Int} {L : List (List Int)} {d dl dh dr dt dw x d0 d1 d2 d3 d4 d5 : PyData} {ds tl : List PyData} {i j c b v m : Int}
end
end PL
namespace PL
variable [DL.Tb]
open PySem PySem.Spec PyProof.Rows L2 Evl DL FL
section
variable {K : PySem.W.Frag} {a : Ad} {B : Base} {δ : En} {te ta tb tc td tf : TE} {tt tu : TT} {E : XK} {P : Pd} {Po' : Po} {R : XR} {Cc : Addr} {two : Bool} {n k : Nat} {ts ps : List (Int × Int)} {us vs ws rs l row S T S2 T2 xs ys is C W A X D : List Int} {L : List (List Int)} {d dl dh dr dt dw x d0 d1 d2 d3 d4 d5 : PyData} {ds tl : List PyData} {i j c b v m : Int}
end
end PL
namespace PL
variable [DL.Tb]
open PySem PySem.Spec PyProof.Rows L2 Evl DL FL
section
variable {K : PySem.W.Frag} {a : Ad} {B : Base} {δ : En} {te ta tb tc td tf : TE} {tt tu : TT} {E : XK} {P : Pd} {Po' : Po} {R : XR} {Cc : Addr} {two : Bool} {n k : Nat} {ts ps : List (Int × Int)} {us vs ws rs l row S T S2 T2 xs ys is C W A X D : List Int} {L : List (List Int)} {d dl dh dr dt dw x d0 d1 d2 d3 d4 d5 : PyData} {ds tl : List PyData} {i j c b v m : Int}
theorem eo_i (h : ED K B te δ (· = .int i)) : EO K B (tPart te) δ (· = some i) := fun G H σ Ev Q q => h G H σ Ev _ fun v d G1 H1 pd m r => by
  subst pd
  rw [r.i]
  exact ⟨i, rfl, q _ G1 H1 rfl m⟩
end
end PL
namespace PL
variable [DL.Tb]
open PySem PySem.Spec PyProof.Rows L2 Evl DL FL
section
variable {K : PySem.W.Frag} {a : Ad} {B : Base} {δ : En} {te ta tb tc td tf : TE} {tt tu : TT} {tA : TA} {E : XK} {P : Pd} {Pl : List PyData → Prop} {Po' : Po} {R : XR} {Cc : Addr} {two : Bool} {n k m : Nat} {ts ps : List (Int × Int)} {us vs ws rs l row S T S2 T2 xs ys is C W A X D : List Int} {L : List (List Int)} {d dl dh dr dt dw x d0 d1 d2 d3 d4 d5 g0 g1 g2 : PyData} {ds tl : List PyData} {i j c b v w : Int}
theorem all_len : (allN n).length = n := by rw [List.length_map, List.length_range]
theorem ed_cNP {W : WT} {n : Nat} {Pa : List PyData → Prop} (h : EA K B tA δ Pa) (w : ∀ ds, Pa ds → ds.length = n ∧ W ds P) : ED K B (tCall (SpW K n W) [] E tA) δ P := fun G H σ Ev Q q => h G H σ Ev _ fun vs es G1 H1 pd m r => by
  have I1 := Ev.iv.at m
  obtain ⟨hl, w⟩ := w es pd
  show SpW K n W (vs ++ []) H1 Q E
  rw [List.append_nil]
  exact ⟨G1, es, P, I1.i0, r, hl, w, fun d po v G2 H2 J rd => q v d G2 H2 po (m.trans (I1.gmP J) Ev.iv) rd⟩
end
mutual
theorem noI_of : ∀ {d : PyData}, noD d = true → noI d = true
  | .none, _ => by simp [noI]
  | .bool _, _ => by simp [noI]
  | .int _, _ => by simp [noI]
  | .str _, _ => by simp [noI]
  | .dict _, h => by simp [noD] at h
  | .list xs, h => by
    rw [noI]
    exact noIA_of (by simpa [noD] using h)
  | .tuple xs, h => by
    rw [noI]
    exact noIA_of (by simpa [noD] using h)
theorem noIA_of : ∀ {ds : List PyData}, noDA ds = true → noIA ds = true
  | [], _ => by simp [noIA]
  | d :: ds, h => by
    have q := Bool.and_eq_true_iff.mp (show (noD d && noDA ds) = true by simpa [noDA] using h)
    rw [noIA, noI_of q.1, noIA_of q.2]
    rfl
end
structure ShI (k w : Nat) (d : PyData) : Prop where
  no : noI d = true
  dep : d.depth ≤ k
  sh : d.showable = true
  len : d.shown.length ≤ w
theorem Shw.i {k w : Nat} {d : PyData} (h : Shw k w d) : ShI k w d := ⟨noI_of h.cmp.no, h.cmp.dep, h.sh, h.len⟩
theorem ShI.le {k w k2 w2 : Nat} {d : PyData} (h : ShI k w d) (h1 : k ≤ k2) (h2 : w ≤ w2) : ShI k2 w2 d := ⟨h.no, Nat.le_trans h.dep h1, h.sh, Nat.le_trans h.len h2⟩
theorem shi_dct : ShI 1 34 (.dict [(.int 0, .int 1)]) := ⟨by rw [noI]; rfl, by decide +kernel, by decide +kernel, by decide +kernel⟩
end PL
namespace PL
variable [DL.Tb]
open PySem PySem.Spec PyProof.Rows L2 Evl DL FL
section
variable {K : PySem.W.Frag} {a : Ad} {B : Base} {δ : En} {te ta tb tc td tf : TE} {tt tu : TT} {E : XK} {P : Pd} {Po' : Po} {R : XR} {Cc : Addr} {two : Bool} {n k : Nat} {ts ps : List (Int × Int)} {us vs ws rs l row S T S2 T2 xs ys is C W A X D : List Int} {L : List (List Int)} {d dl dh dr dt dw x d0 d1 d2 d3 d4 d5 g v : PyData} {ds tl : List PyData} {i j c b m w : Int}
structure BadWd (K : PySem.W.Frag) (a : Ad) (m : Int) (g v : PyData) : Prop where
  int : ∃ i : Int, v = .int i
  shi : ShI 2 2000 g
  ref : ∀ R : XR, R (a.ec "BadWorld") [("at", v)] → W_good_world K a [.int m, g] (fun _ => False) R
structure BadLt (K : PySem.W.Frag) (a : Ad) (n : Nat) (g v : PyData) : Prop where
  int : ∃ i : Int, v = .int i
  shi : ShI 2 2000 g
  ref : ∀ R : XR, R (a.ec "BadLot") [("at", v)] → W_good_lot K a [.int (n : Int), g] (fun _ => False) R
structure SpoW (us : List Int) (k : Nat) (ds : List PyData) : Prop where
  len : ds.length = us.length
  all : ∀ y ∈ ds, Shw 1 40 y ∧ plainB y = true
  bad : ∃ x, ds[k]? = some x ∧ amtB x = false
  ok : ∀ j, j < k → ∀ y, ds[j]? = some y → amtB y = true
theorem SpoW.more {q : Nat} {x : PyData} (h : SpoW us k ds) (hq : k < q) (hx : Shw 1 40 x ∧ plainB x = true) : SpoW us k (ds.set q x) where
  len := by rw [List.length_set]; exact h.len
  all := fun y hy => (List.mem_or_eq_of_mem_set hy).elim (h.all y) fun e => by rw [e]; exact hx
  bad := by
    obtain ⟨x, h1, h2⟩ := h.bad
    exact ⟨x, by rw [List.getElem?_set_ne (by omega)]; exact h1, h2⟩
  ok := fun j hj y hy => h.ok j hj y (by rw [List.getElem?_set_ne (by omega)] at hy; exact hy)
theorem spW_one (hc : CapT us) (hk : k < us.length) (hx : amtB x = false) (h1 : Shw 1 40 x) (h2 : plainB x = true) : SpoW us k ((us.map PyData.int).set k x) where
  len := by rw [List.length_set, List.length_map]
  all := fun y hy => (List.mem_or_eq_of_mem_set hy).elim (fun hy => by
    obtain ⟨i, hi, rfl⟩ := List.mem_map.mp hy
    have := hc i hi
    exact ⟨(shw_int (by omega)).le (Nat.le_refl _) (by decide), rfl⟩) fun e => by rw [e]; exact ⟨h1, h2⟩
  bad := ⟨x, by rw [List.getElem?_set_self (by rw [List.length_map]; exact hk)], hx⟩
  ok := fun j hj y hy => by
    rw [List.getElem?_set_ne (by omega), List.getElem?_map, List.getElem?_eq_getElem (by omega)] at hy
    cases hy
    exact decide_eq_true (hc _ (List.getElem_mem _)).1
theorem SpoW.badWd (er : a.er "BadWorld" = true) (h : SpoW us k ds) (hz : us.length ≤ 20) : BadWd K a (us.length : Int) (.list ds) (.int (k : Int)) where
  int := ⟨_, rfl⟩
  shi := (shw_list (k := 1) (w := 40) (fun x hx => (h.all x hx).1) (by rw [h.len]; omega)).i
  ref := fun R r => by
    obtain ⟨x, h1, h2⟩ := h.bad
    rw [← h.len]
    exact x_good_world_at er rfl (by rw [h.len]; omega) (fun y hy => (h.all y hy).2) (.inl rfl) h1 h2 h.ok r
theorem shw_tup2 {k w z : Nat} {xs : List PyData} (h : ∀ x ∈ xs, Shw k w x) (hz : (w + 2) * xs.length + 3 ≤ z) : Shw (k + 1) z (.tuple xs) := by
  obtain ⟨h0, h1, h2⟩ := shw_all h
  have h3 := tupleText_len_le (PyData.shownAll xs)
  refine ⟨cmp_tup fun x hx => (h x hx).cmp, by rw [PyData.showable]; exact h0, ?_⟩
  show (tupleText (PyData.shownAll xs)).length ≤ z
  rw [Nat.add_mul] at hz
  omega
theorem l2_of {ta tb : TE} {Pa Pb : PyData → Prop} (h1 : ED K B ta δ Pa) (h2 : ED K B tb δ Pb) : ED K B (tLst (tCons ta (tCons tb tNil))) δ (fun d => ∃ x y, Pa x ∧ Pb y ∧ d = .list [x, y]) :=
  (el_lstP (P := fun l => ∃ x y, Pa x ∧ Pb y ∧ l = [x, y]) ((ea_consP h1 (ea_consP h2 ea_nil)).imp fun l h => by
    obtain ⟨x, _, px, ⟨y, _, py, rfl, rfl⟩, rfl⟩ := h
    exact ⟨x, y, px, py, rfl⟩) fun l h => by obtain ⟨x, y, _, _, rfl⟩ := h; show 2 ≤ 100000; omega).ed.imp fun d h => by
    obtain ⟨_, ⟨x, y, px, py, rfl⟩, rfl⟩ := h
    exact ⟨x, y, px, py, rfl⟩
theorem ed_m1 {i : Int} : ED K B (tOp (rI0 fun i j => .int (i - j)) (tC (.int 0)) (tC (.int i))) δ (· = .int (-i)) := (ed_opi (f := fun i j => i - j) ed_int ed_int).is (congrArg PyData.int (Int.zero_sub i))
theorem w_law_bad_world (er : a.er "BadWorld" = true) (hc : CapT us) (hz : us.length ≤ 20) (pr : ∀ g v, BadWd K a (us.length : Int) g v → P (.list [g, v])) : W_law_bad_world K a [eIs us] P := fun B => by
  have sm : ∀ i ∈ us, i.natAbs < 10 ^ 33 := fun i hi => by
    have := hc i hi
    omega
  have len : ∀ {δ : En} {k : Nat}, δ[k]? = some (.sh (eIs us)) → ED K B (tCB (rLenQ K) (tCons (tVar k) tNil)) δ (· = .int (us.length : Int)) := fun h => (ed_lenL (ed_var h)).is (by rw [List.length_map])
  refine sd_cons (sd_asg (ed_take rfl ed_int (by decide)) ?_)
  rintro _ ⟨w, ⟨w0, w1⟩, rfl⟩
  refine sd_cons (sd_ifd (x := decide (w = 5) || decide (us.length = 0)) (et_or (et_test (ed_opd (ed_var rfl) ed_int (rd_eq rfl))) fun _ => (et_test (ed_opd (len rfl) ed_int (rd_eq rfl))).is (by simp [eqS])) (fun c => ?_) (fun c => sd_next ?_))
  · refine sd_ret (l2_of (ed_ixP (ds := [.none, .list (us.map PyData.int ++ [.int 0]), .str "1", .int 7]) (p := fun r => 0 ≤ r ∧ r < 4) (EL.edd (el_lst (ea_cons ed_non (ea_cons (ed_cat (xs := us.map PyData.int) (ys := [.int 0]) (ed_copy rfl) (ed_l1 ed_int) (by rw [List.length_map]; show _ + 1 ≤ _; omega)) (ea_cons ed_str (ea_cons ed_int ea_nil)))) (by show 4 ≤ 100000; omega))) (ed_take rfl ed_int (by decide)) (fun i h => ⟨h.1, by show i < 4; exact h.2⟩)) (ed_m1 (i := 1))) ?_
    rintro _ ⟨g, _, ⟨i, ⟨i0, i1⟩, hb⟩, rfl, rfl⟩
    refine pr _ _ ?_
    obtain ⟨q, rfl⟩ : ∃ q : Nat, i = (q : Int) := ⟨i.toNat, by omega⟩
    rw [Int.toNat_natCast] at hb
    have q3 : q < 4 := by omega
    match q, q3, hb with
    | 0, _, hb =>
      cases hb
      exact ⟨⟨_, rfl⟩, (shw_non (k := 1)).i.le (by decide) (by decide), fun R r => x_good_world_no er rfl rfl r⟩
    | 1, _, hb =>
      cases hb
      refine ⟨⟨_, rfl⟩, ((shw_list (k := 1) (w := 40) (z := 2000) (fun x hx => ?_) (by rw [List.length_append, List.length_map]; show 42 * (_ + 1) + 3 ≤ 2000; omega)).i), fun R r => x_good_world er (by rw [List.length_append, List.length_map]; show (us.length : Int) ≠ ((us.length + 1 : Nat) : Int); omega) (.inl rfl) r⟩
      rcases List.mem_append.mp hx with hx | hx
      · obtain ⟨i, hi, rfl⟩ := List.mem_map.mp hx
        exact (shw_int (sm i hi)).le (Nat.le_refl _) (by decide)
      · rw [List.mem_singleton.mp hx]
        exact (shw_int (by decide)).le (Nat.le_refl _) (by decide)
    | 2, _, hb =>
      cases hb
      exact ⟨⟨_, rfl⟩, (shw_str (k := 1) (by decide +kernel) (by decide +kernel)).i.le (by decide) (by decide), fun R r => x_good_world_no er rfl rfl r⟩
    | 3, _, hb =>
      cases hb
      exact ⟨⟨_, rfl⟩, (shw_int (k := 1) (by decide)).i.le (by decide) (by decide), fun R r => x_good_world_no er rfl rfl r⟩
  rw [Bool.or_eq_false_iff, decide_eq_false_iff_not, decide_eq_false_iff_not] at c
  refine sd_cons (sd_ifd (et_test (ed_opd (ed_var rfl) ed_int (rd_eq rfl))) (fun c4 => ?_) (fun c4 => sd_next ?_))
  · refine sd_ret (l2_of (Pa := (· = .list ((us.map PyData.int).drop 1))) (EL.edd (EL.imp (el_sl (ds := us.map PyData.int) (ed_copy rfl) (eo_i (i := 1) ed_int) eo_none) fun es h => by
      obtain ⟨lo, hi, h1, h2, h3⟩ := h
      rw [h3, h1, h2]
      exact cut_fr _)) (ed_m1 (i := 1))) ?_
    rintro _ ⟨_, _, rfl, rfl, rfl⟩
    refine pr _ _ ⟨⟨_, rfl⟩, (shw_list (k := 1) (w := 40) (z := 2000) (fun x hx => ?_) (by rw [List.length_drop, List.length_map]; omega)).i, fun R r => x_good_world er (by rw [List.length_drop, List.length_map]; omega) (.inl rfl) r⟩
    obtain ⟨i, hi, rfl⟩ := List.mem_map.mp (List.mem_of_mem_drop hx)
    exact (shw_int (sm i hi)).le (Nat.le_refl _) (by decide)
  have c4 : ¬ w = 4 := of_decide_eq_false c4
  refine sd_cons (sd_asg (ed_take rfl (len rfl) (by omega)) ?_)
  rintro _ ⟨k, ⟨k0, k1⟩, rfl⟩
  obtain ⟨k, rfl⟩ : ∃ q : Nat, k = (q : Int) := ⟨k.toNat, by omega⟩
  have kl : k < us.length := by omega
  refine sd_cons (sd_ownd (ds := us.map PyData.int) (el_listS (ed_row rfl (.inl rfl))) ?_)
  refine sd_cons (sd_store (Pd := fun x => amtB x = false ∧ Shw 1 40 x ∧ plainB x = true) (i := 4) (j := k) rfl ((ed_ixP (ds := [.int (-1), .none, .bool true, .str "1"]) (p := fun r => r = w) (EL.edd (el_lst (ea_cons (ed_m1 (i := 1)) (ea_cons ed_non (ea_cons ed_bl (ea_cons ed_str ea_nil)))) (by show 4 ≤ 100000; omega))) (toI (ed_var rfl)) (fun i h => by subst h; exact ⟨w0, by show i < 4; omega⟩)).imp fun x h => ?_) (ed_var rfl) (by rw [List.length_map]; exact kl) fun x hx => ?_)
  · obtain ⟨i, rfl, h⟩ := h
    obtain ⟨q, rfl⟩ : ∃ q : Nat, i = (q : Int) := ⟨i.toNat, by omega⟩
    rw [Int.toNat_natCast] at h
    have q3 : q < 4 := by omega
    match q, q3, h with
    | 0, _, h => cases h; exact ⟨rfl, (shw_int (by decide)).le (Nat.le_refl _) (by decide), rfl⟩
    | 1, _, h => cases h; exact ⟨rfl, shw_non.le (Nat.le_refl _) (by decide), rfl⟩
    | 2, _, h => cases h; exact ⟨rfl, shw_bl.le (Nat.le_refl _) (by decide), rfl⟩
    | 3, _, h => cases h; exact ⟨rfl, (shw_str (by decide +kernel) (by decide +kernel)).le (Nat.le_refl _) (by decide), rfl⟩
  have sp := spW_one (k := k) hc kl hx.1 hx.2.1 hx.2.2
  generalize (us.map PyData.int).set k x = ds at sp
  refine sd_mid (fun δ' => ∃ (ds : List PyData) (s5 : Sl), SpoW us k ds ∧ δ' = [.dr, .sh (eIs us), .sh (.int w), .sh (.int (k : Int)), .ow ds, s5]) (sd_if (et_eqP (ed_take rfl ed_int (by decide)) (toI ed_int)) fun b _ => ?_) ?_
  · cases b with
    | false => exact sd_next ⟨ds, _, sp, rfl⟩
    | true =>
      refine sd_rng2 (a := (k : Int) + 1) (n := (us.length : Int)) (fun _ δ' => ∃ (ds : List PyData) (s5 : Sl), SpoW us k ds ∧ δ' = [.dr, .sh (eIs us), .sh (.int w), .sh (.int (k : Int)), .ow ds, s5]) (ea_cons (ed_opi (f := fun i j => i + j) (ed_var rfl) ed_int) (ea_cons ((ed_lenOw (i := 4) (ds := ds) rfl).is (by rw [sp.len])) ea_nil)) (by omega) ⟨ds, _, sp, rfl⟩ ?_ fun _ h => h
      rintro i _ hi ⟨ds, s5, sp, rfl⟩
      refine sd_store (Pd := (· = .int (-5))) (i := 4) (j := k + 1 + i) rfl (ed_m1 (i := 5)) ((ed_var rfl).is (congrArg PyData.int (by omega))) (by rw [sp.len]; omega) ?_
      rintro _ rfl
      exact ⟨_, _, sp.more (by omega) ⟨(shw_int (by decide)).le (Nat.le_refl _) (by decide), rfl⟩, rfl⟩
  rintro _ ⟨ds, s5, sp, rfl⟩
  refine sd_freeze 4 rfl ?_
  exact sd_retd (d := .list [.list ds, .int (k : Int)]) (ed_l2 (ed_var rfl) (ed_var rfl)) (pr _ _ (sp.badWd er hz))
theorem w_law_bad_lot (er : a.er "BadLot" = true) (h6 : n ≤ 12) (hl : LotIn n l) (pr : ∀ g v, BadLt K a n g v → P (.list [g, v])) : W_law_bad_lot K a [eIs l, .int (n : Int)] P := fun B => by
  have ll := lot_len hl
  have len : ∀ {δ : En} {k : Nat}, δ[k]? = some (.sh (eIs l)) → ED K B (tCB (rLenQ K) (tCons (tVar k) tNil)) δ (· = .int (l.length : Int)) := fun h => (ed_lenL (ed_var h)).is (by rw [List.length_map])
  have sm : ∀ i ∈ l, i.natAbs < 10 ^ 33 := fun i hi => by
    have := hl.2 i hi
    have : (12 : Nat) < 10 ^ 33 := by decide
    omega
  refine sd_cons (sd_asg (ed_take rfl ed_int (by decide)) ?_)
  rintro _ ⟨w, ⟨w0, w1⟩, rfl⟩
  refine sd_cons (sd_ifd (et_test (ed_opd (ed_var rfl) ed_int (rd_eq rfl))) (fun c => ?_) (fun c => sd_next ?_))
  · refine sd_ret (l2_of (ed_ixP (ds := [.none, .int 3, .str "012", .dict [(.int 0, .int 1)]]) (p := fun r => 0 ≤ r ∧ r < 4) (EL.edd (el_lst (ea_cons ed_non (ea_cons ed_int (ea_cons ed_str (ea_cons ed_disp1 ea_nil)))) (by show 4 ≤ 100000; omega))) (ed_take rfl ed_int (by decide)) (fun i h => ⟨h.1, by show i < 4; exact h.2⟩)) (ed_m1 (i := 1))) ?_
    rintro _ ⟨g, _, ⟨i, ⟨i0, i1⟩, hb⟩, rfl, rfl⟩
    refine pr _ _ ?_
    obtain ⟨q, rfl⟩ : ∃ q : Nat, i = (q : Int) := ⟨i.toNat, by omega⟩
    rw [Int.toNat_natCast] at hb
    have q3 : q < 4 := by omega
    match q, q3, hb with
    | 0, _, hb =>
      cases hb
      exact ⟨⟨_, rfl⟩, (shw_non (k := 1)).i.le (by decide) (by decide), fun R r => x_good_lot_no er rfl rfl r⟩
    | 1, _, hb =>
      cases hb
      exact ⟨⟨_, rfl⟩, (shw_int (k := 1) (by decide)).i.le (by decide) (by decide), fun R r => x_good_lot_no er rfl rfl r⟩
    | 2, _, hb =>
      cases hb
      exact ⟨⟨_, rfl⟩, (shw_str (k := 1) (by decide +kernel) (by decide +kernel)).i.le (by decide) (by decide), fun R r => x_good_lot_no er rfl rfl r⟩
    | 3, _, hb =>
      cases hb
      exact ⟨⟨_, rfl⟩, shi_dct.le (by decide) (by decide), fun R r => x_good_lot_no er rfl rfl r⟩
  have c : ¬ w = 8 := of_decide_eq_false c
  refine sd_cons (sd_asg (ed_take rfl (ed_opi (f := fun i j => i + j) (len rfl) ed_int) (by omega)) ?_)
  rintro _ ⟨k, ⟨k0, k1⟩, rfl⟩
  obtain ⟨k, rfl⟩ : ∃ q : Nat, k = (q : Int) := ⟨k.toNat, by omega⟩
  have kl : k ≤ l.length := by omega
  have hlk : LotIn n (l.take k) := ⟨(List.take_sublist k l).nodup hl.1, fun x hx => hl.2 x (List.mem_of_mem_take hx)⟩
  refine sd_cons (sd_asg (Pd := fun x => (w ≤ 3 ∨ k = 0 → BadM n (l.take k) x) ∧ Shw 1 100 x) ((ed_ixP (ds := [.int (n : Int), .int (-1), .none, .bool true, .str "0", .int ((n : Int) + 7), .int (-2), .list [.int 0]]) (p := fun r => r = w) (EL.edd (el_lst (ea_cons (ed_var rfl) (ea_cons (ed_m1 (i := 1)) (ea_cons ed_non (ea_cons ed_bl (ea_cons ed_str (ea_cons (ed_opi (f := fun i j => i + j) (ed_var rfl) ed_int) (ea_cons (ed_m1 (i := 2)) (ea_cons (ed_l1 ed_int) ea_nil)))))))) (by show 8 ≤ 100000; omega))) (toI (ed_var rfl)) (fun i h => by subst h; exact ⟨w0, by show i < 8; omega⟩)).imp fun x h => ?_) fun x hx => ?_)
  · obtain ⟨i, rfl, h⟩ := h
    obtain ⟨q, rfl⟩ : ∃ q : Nat, i = (q : Int) := ⟨i.toNat, by omega⟩
    rw [Int.toNat_natCast] at h
    have q3 : q < 8 := by omega
    have big : (19 : Nat) < 10 ^ 33 := by decide
    match q, q3, h with
    | 0, _, h => cases h; exact ⟨fun _ => ⟨rfl, fun _ => ⟨_, rfl, .inr (.inr (Int.le_refl _))⟩⟩, (shw_int (by omega)).le (Nat.le_refl _) (by decide)⟩
    | 1, _, h => cases h; exact ⟨fun _ => ⟨rfl, fun _ => ⟨_, rfl, .inl (by decide)⟩⟩, (shw_int (by decide)).le (Nat.le_refl _) (by decide)⟩
    | 2, _, h => cases h; exact ⟨fun _ => ⟨rfl, fun h => by cases h⟩, shw_non.le (Nat.le_refl _) (by decide)⟩
    | 3, _, h => cases h; exact ⟨fun _ => ⟨rfl, fun h => by cases h⟩, shw_bl.le (Nat.le_refl _) (by decide)⟩
    | 4, _, h => cases h; exact ⟨fun _ => ⟨rfl, fun h => by cases h⟩, (shw_str (by decide +kernel) (by decide +kernel)).le (Nat.le_refl _) (by decide)⟩
    | 5, _, h => cases h; exact ⟨fun _ => ⟨rfl, fun _ => ⟨_, rfl, .inr (.inr (by omega))⟩⟩, (shw_int (by omega)).le (Nat.le_refl _) (by decide)⟩
    | 6, _, h => cases h; exact ⟨fun _ => ⟨rfl, fun _ => ⟨_, rfl, .inl (by decide)⟩⟩, (shw_int (by decide)).le (Nat.le_refl _) (by decide)⟩
    | 7, _, h => cases h; exact ⟨fun _ => ⟨rfl, fun h => by cases h⟩, shw_list (k := 0) (w := 34) (fun y hy => by rw [List.mem_singleton.mp hy]; exact shw_int (by decide)) (by decide)⟩
  refine sd_mid (fun δ' => ∃ x, BadM n (l.take k) x ∧ Shw 1 100 x ∧ δ' = [.dr, .sh (eIs l), .sh (.int (n : Int)), .sh (.int w), .sh (.int (k : Int)), .sh x, .no]) (sd_ifd (x := decide (3 < w) && decide (0 < (k : Int))) (et_and (et_test (ed_opb (f := fun i j => decide (j < i)) (ed_var rfl) ed_int)) fun _ => et_test (ed_opb (f := fun i j => decide (j < i)) (ed_var rfl) ed_int)) (fun c => ?_) (fun c => sd_next ?_)) ?_
  · have c := Bool.and_eq_true_iff.mp c
    have kp := of_decide_eq_true c.2
    refine sd_asg (Pd := fun d => ∃ p : Int, p ∈ l.take k ∧ d = .int p) ((ed_ixP (ds := l.map PyData.int) (p := fun r => 0 ≤ r ∧ r < (k : Int)) (ed_var rfl) (ed_take rfl (ed_var rfl) kp) (fun i h => ⟨h.1, by rw [List.length_map]; omega⟩)).imp fun d h => ?_) ?_
    · obtain ⟨i, ⟨i0, i1⟩, h⟩ := h
      have il : i.toNat < l.length := by omega
      rw [List.getElem?_map, List.getElem?_eq_getElem il] at h
      cases h
      exact ⟨_, List.mem_take_iff_getElem.mpr ⟨i.toNat, by omega, rfl⟩, rfl⟩
    · rintro _ ⟨p, hp, rfl⟩
      exact ⟨_, ⟨rfl, fun _ => ⟨p, rfl, .inr (.inl hp)⟩⟩, (shw_int (sm p (List.mem_of_mem_take hp))).le (Nat.le_refl _) (by decide), rfl⟩
  · refine ⟨x, hx.1 ?_, hx.2, rfl⟩
    rw [Bool.and_eq_false_iff, decide_eq_false_iff_not, decide_eq_false_iff_not] at c
    omega
  clear hx
  rintro _ ⟨x, hx, hs, rfl⟩
  refine sd_cons (sd_own (Pl := (· = (l.take k).map PyData.int ++ x :: (l.drop k).map PyData.int)) ((el_cat (Pa := (· = (l.take k).map PyData.int ++ [x])) (Pb := (· = (l.drop k).map PyData.int)) ((EL.ed (el_cat (Pa := (· = (l.take k).map PyData.int)) (Pb := (· = [x])) ((EL.ed (el_sl (ds := l.map PyData.int) (ed_var rfl) eo_none (eo_i (ed_var rfl)))).imp fun d h => ?_) ((ed_l1 (ed_var rfl)).imp fun d h => ⟨_, rfl, h⟩) (fun y z h1 h2 => by rw [h1, h2, List.length_map, List.length_take]; show _ + 1 ≤ _; omega))).imp fun d h => ?_) ((EL.ed (el_sl (ds := l.map PyData.int) (ed_var rfl) (eo_i (ed_var rfl)) eo_none)).imp fun d h => ?_) (fun y z h1 h2 => by rw [h1, h2, List.length_append, List.length_map, List.length_map, List.length_take, List.length_drop]; show _ + 1 + _ ≤ _; omega)).imp fun es h => ?_) ?_)
  · obtain ⟨es, ⟨lo, hi, h1, h2, h3⟩, rfl⟩ := h
    exact ⟨_, by rw [h3, h1, h2, cut_to _ _ (Int.natCast_nonneg k), Int.toNat_natCast, List.map_take], rfl⟩
  · obtain ⟨es, ⟨y, z, h1, h2, h3⟩, rfl⟩ := h
    exact ⟨_, by rw [h3, h1, h2], rfl⟩
  · obtain ⟨es, ⟨lo, hi, h1, h2, h3⟩, rfl⟩ := h
    exact ⟨_, by rw [h3, h1, h2, cut_frN (by rw [List.length_map]; exact kl), List.map_drop], rfl⟩
  · obtain ⟨y, z, h1, h2, h3⟩ := h
    rw [h3, h1, h2, List.append_assoc]
    rfl
  rintro _ rfl
  refine sd_mid (fun δ' => ∃ tl : List Int, tl.length ≤ 1 ∧ (∀ i ∈ tl, i = -1) ∧ δ' = [.dr, .sh (eIs l), .sh (.int (n : Int)), .sh (.int w), .sh (.int (k : Int)), .sh x, .ow ((l.take k).map PyData.int ++ x :: (l.drop k ++ tl).map PyData.int)]) (sd_if (et_eqP (ed_take rfl ed_int (by decide)) (toI ed_int)) fun b _ => ?_) ?_
  · cases b with
    | false => exact sd_next ⟨[], by simp, by simp, by rw [List.append_nil]; rfl⟩
    | true =>
      refine sd_app (Pd := (· = .int (-1))) rfl (ed_m1 (i := 1)) (by rw [List.length_append, List.length_cons, List.length_map, List.length_map, List.length_take, List.length_drop]; omega) ?_
      rintro _ rfl
      exact ⟨[-1], by simp, by simp, by rw [List.map_append, List.append_assoc]; rfl⟩
  rintro _ ⟨tl, t1, t2, rfl⟩
  have sh : ∀ y ∈ (l.take k).map PyData.int ++ x :: (l.drop k ++ tl).map PyData.int, Shw 1 100 y := fun y hy => by
    rcases List.mem_append.mp hy with hy | hy
    · obtain ⟨i, hi, rfl⟩ := List.mem_map.mp hy
      exact (shw_int (sm i (List.mem_of_mem_take hi))).le (Nat.le_refl _) (by decide)
    · rcases List.mem_cons.mp hy with rfl | hy
      · exact hs
      · obtain ⟨i, hi, rfl⟩ := List.mem_map.mp hy
        rcases List.mem_append.mp hi with hi | hi
        · exact (shw_int (sm i (List.mem_of_mem_drop hi))).le (Nat.le_refl _) (by decide)
        · rw [t2 i hi]
          exact (shw_int (by decide)).le (Nat.le_refl _) (by decide)
  have zl : ((l.take k).map PyData.int ++ x :: (l.drop k ++ tl).map PyData.int).length ≤ 14 := by
    rw [List.length_append, List.length_cons, List.length_map, List.length_map, List.length_append, List.length_take, List.length_drop]
    omega
  have bad : ∀ {d : PyData}, RowV ((l.take k).map PyData.int ++ x :: (l.drop k ++ tl).map PyData.int) d → ShI 2 2000 d → BadLt K a n d (.int (k : Int)) := fun hd h => ⟨⟨_, rfl⟩, h, fun R r => by
    have e : (k : Int) = ((l.take k).length : Int) := by rw [List.length_take, Nat.min_eq_left kl]
    rw [e] at r
    exact x_good_lotU er hlk hx hd r⟩
  generalize (l.take k).map PyData.int ++ x :: (l.drop k ++ tl).map PyData.int = ds at bad zl sh
  refine sd_mid (fun δ' => ∃ g, RowV ds g ∧ δ' = [.dr, .sh (eIs l), .sh (.int (n : Int)), .sh (.int w), .sh (.int (k : Int)), .sh x, .sh g]) (sd_freeze 6 rfl (sd_if (et_eqP (ed_take rfl ed_int (by decide)) (toI ed_int)) fun b _ => ?_)) ?_
  · cases b with
    | false => exact sd_next ⟨_, .inl rfl, rfl⟩
    | true => exact sd_asgd (d := .tuple ds) (ed_cb (ds := [.list ds]) (ea_cons (ed_var rfl) ea_nil) cd_tupL) ⟨_, .inr rfl, rfl⟩
  rintro _ ⟨g, hg, rfl⟩
  exact sd_retd (d := .list [g, .int (k : Int)]) (ed_l2 (ed_var rfl) (ed_var rfl)) (pr _ _ (bad hg (hg.elim (fun e => by rw [e]; exact (shw_list (k := 1) (w := 100) sh (by omega)).i) fun e => by rw [e]; exact (shw_tup2 sh (by omega)).i)))
theorem shi_small {n : Nat} (hn : n ≤ 12) (hl : ∀ x ∈ l, 0 ≤ x ∧ x < (n : Int)) (hz : l.length ≤ 40) : Shw 1 1500 (eIs l) := shw_ints (k := 0) (fun i hi => by
  have := hl i hi
  have : (12 : Nat) < 10 ^ 33 := by decide
  omega) hz
end
end PL
namespace PL
variable [DL.Tb]
open PySem PySem.Spec PyProof.Rows L2 Evl DL FL
section
variable {K : PySem.W.Frag} {a : Ad} {B : Base} {δ : En} {te ta tb tc td tf : TE} {tt tu : TT} {tA : TA} {E : XK} {P : Pd} {Po' : Po} {R : XR} {Cc : Addr} {two : Bool} {n k : Nat} {ts ps : List (Int × Int)} {us vs ws rs l row S T S2 T2 xs ys is C W A X D I O : List Int} {L : List (List Int)} {Pl : List PyData → Prop} {d dl dh dr dt dw x d0 d1 d2 d3 d4 d5 g v : PyData} {ds tl : List PyData} {i j c b m w : Int}
def BadN (l : List Int) (d : PyData) : Prop := plainB d = true ∧ (isIntD d = true → ∃ p : Int, d = .int p ∧ (p < 0 ∨ p ∈ l))
theorem srt_one {q : Int} : srt [q] = [q] := List.perm_singleton.mp (srt_perm [q])
theorem sd_wmN {n : Int} {l : List Int} {tl : List PyData} {d : PyData} (hl : LotIn n l) (hd : RowV (l.map PyData.int ++ tl) d) (h1 : tl = [] → P .none) (h2 : ∀ x xs, tl = x :: xs → BadN l x ∧ P (.int (l.length : Int))) : W_wrong_member K a [.none, d] P R := fun B E hE => by
  obtain ⟨nd, hl⟩ := hl
  refine sd_cons (sd_ifd (x := false) ((et_not (et_B (ed_isRow (rowPl hd) (ed_var rfl)))).is (by rw [rowRow hd]; rfl)) (fun h => by cases h) (fun _ => sd_next ?_))
  refine sd_mid (fun δ' => tl = [] ∧ ∃ s t : Sl, δ' = [.sh .none, .sh d, s, t]) (sd_ford (fun i δ' => (i ≤ l.length) ∧ ∃ s t : Sl, δ' = [.sh .none, .sh d, s, t]) (wd_enumS ((ea_consP (ed_row (i := 1) rfl hd) ea_nil).imp fun es ⟨x, xs, h, e, q⟩ => ⟨x, h, by rw [q, e]⟩)) ⟨Nat.zero_le _, _, _, rfl⟩ ?_ ?_) ?_
  · rintro i e _ hi ⟨hil, s, t, rfl⟩
    obtain ⟨x, hx, rfl⟩ := enum_at hi
    have tk : (l.map PyData.int ++ tl).take i = (l.take i).map PyData.int := by rw [List.take_append_of_le_length (by rw [List.length_map]; exact hil), List.map_take]
    have sl : ∀ {δ : En}, δ[1]? = some (.sh d) → δ[2]? = some (.sh (.int (i : Int))) → ED K B (tSl (rSlS K) (tVar 1) tNoPart (tPart (tVar 2))) δ (RowV ((l.take i).map PyData.int)) := fun g1 g2 => by
      have z := ed_slS (K := K) (B := B) (k := i) (ed_row (i := 1) g1 hd) (ed_var g2) (by rw [List.length_append, List.length_map]; omega)
      rw [tk] at z
      exact z
    by_cases hlt : i < l.length
    · have hx2 : (l.map PyData.int)[i]? = some x := by rw [List.getElem?_append_left (by rw [List.length_map]; exact hlt)] at hx; exact hx
      rw [List.getElem?_map, List.getElem?_eq_getElem hlt] at hx2
      cases hx2
      obtain ⟨p0, p1⟩ := hl l[i] (List.getElem_mem hlt)
      have np : ¬ l[i] ∈ l.take i := fun h => by
        obtain ⟨j, hj, ej⟩ := List.getElem_of_mem h
        rw [List.length_take] at hj
        rw [List.getElem_take] at ej
        have := (List.getElem_inj nd).mp ej
        omega
      refine ⟨_, _, gd_2, sd_cons (sd_ifd (x := false) ((et_or (a := false) (et_not (et_B (ed_isInt (d := .int l[i]) rfl (ed_var rfl)))) fun _ => et_or (et_test (ed_opb (ed_var rfl) ed_int)) fun _ => et_test (ed_inS (ed_var rfl) (sl rfl rfl))).is ?_) (fun h => by cases h) (fun _ => sd_next ?_))⟩
      · rw [decide_eq_false (show ¬ l[i] < 0 by omega)]
        show (false || (false || decide (l[i] ∈ l.take i))) = false
        rw [decide_eq_false np]
        rfl
      · exact sd_ifd (x := false) ((et_and (a := false) (b := false) ((et_test (ed_opd (ed_var rfl) ed_non rd_notN)).is rfl) fun h => by cases h).is rfl) (fun h => by cases h) (fun _ => sd_next ⟨hlt, _, _, rfl⟩)
    · have e : i = l.length := by omega
      subst e
      cases tl with
      | nil => rw [List.append_nil, List.getElem?_eq_none (by rw [List.length_map]; exact Nat.le_refl _)] at hx; cases hx
      | cons y ys =>
        rw [List.getElem?_append_right (by rw [List.length_map]; exact Nat.le_refl _), List.length_map, Nat.sub_self] at hx
        have ey : y = x := Option.some.inj hx
        subst ey
        obtain ⟨⟨pl, bad⟩, pr⟩ := h2 y ys rfl
        rw [List.take_length] at sl
        refine ⟨_, _, gd_2, ?_⟩
        cases hI : isIntD y with
        | false => exact sd_cons (sd_ifd (x := true) ((et_or (a := true) (b := false) ((et_not (et_B (ed_isInt pl (ed_var rfl)))).is (by rw [hI]; rfl)) fun h => by cases h).is rfl) (fun _ => sd_retd (ed_var rfl) pr) (fun h => by cases h))
        | true =>
          obtain ⟨p, rfl, hp⟩ := bad hI
          refine sd_cons (sd_ifd (x := true) ((et_or (et_not (et_B (ed_isInt (d := .int p) rfl (ed_var rfl)))) fun _ => et_or (et_test (ed_opb (ed_var rfl) ed_int)) fun _ => et_test (ed_inS (ed_var rfl) (sl rfl rfl))).is ?_) (fun _ => sd_retd (ed_var rfl) pr) (fun c => by cases c))
          show (!isIntD (.int p) || (decide (p < 0) || decide (p ∈ l))) = true
          rcases hp with h | h <;> simp [isIntD, h]
  · rintro _ ⟨hil, s, t, rfl⟩
    rw [enumD_len, List.length_append, List.length_map] at hil
    exact ⟨List.eq_nil_of_length_eq_zero (by omega), s, t, rfl⟩
  · rintro _ ⟨e, s, t, rfl⟩
    exact sd_retd ed_non (h1 e)
theorem w_good_lotN {n : Int} (hl : LotIn n l) (hz : l.length < 64) (hd : RowV (l.map PyData.int) d) (p : P (eU (srt l))) : W_good_lot K a [.none, d] P R := fun B E hE => by
  refine sd_cons (sd_asgd (d := .none) (ed_cX0 (ea_cons (ed_var rfl) (ea_cons (ed_var rfl) ea_nil)) (sd_wmN (tl := []) hl (by rw [List.append_nil]; exact hd) (fun _ => rfl) (fun _ _ h => by cases h))) ?_)
  refine sd_cons (sd_ifd (x := false) (et_test (ed_opd (ed_var rfl) ed_non rd_notN)) (fun h => by cases h) (fun _ => sd_next ?_))
  refine sd_ret (Pd := fun d => ∃ ms : List Int, d = eU ms ∧ ms.Perm l ∧ ms.Pairwise (· ≤ ·)) (ed_cbP (ea_consP (EL.ed (el_cbP (Pa := fun es => ∃ x, RowV (l.map PyData.int) x ∧ es = [x]) ((ea_consP (ed_row (i := 1) rfl hd) ea_nil).imp fun es ⟨x, xs, h, e, q⟩ => ⟨x, h, by rw [q, e]⟩) (fun es ⟨x, h, e⟩ => by rw [e]; exact cl_sortedQ h hz))) ea_nil) ?_) ?_
  · rintro _ ⟨_, _, ⟨_, ⟨ms, rfl, h1, h2⟩, rfl⟩, rfl, rfl⟩
    exact fun B G H vs I r Q k => cd_tupL B G H vs I r Q fun z d G' H' e => k z d G' H' ⟨ms, e, h1, h2⟩
  · rintro _ ⟨ms, rfl, h1, h2⟩
    rw [srt_eq h1 h2]
    exact p
theorem x_good_lotN {n : Int} {xs : List PyData} (er : a.er "BadLot" = true) (hl : LotIn n l) (hx : BadN l x) (hd : RowV (l.map PyData.int ++ x :: xs) d) (r : R (a.ec "BadLot") [("at", .int (l.length : Int))]) : W_good_lot K a [.none, d] P R := fun B E hE => by
  refine sd_cons (sd_asgd (d := .int (l.length : Int)) (ed_cX0 (ea_cons (ed_var rfl) (ea_cons (ed_var rfl) ea_nil)) (sd_wmN (tl := x :: xs) hl hd (fun h => by cases h) (fun y ys h => by cases h; exact ⟨hx, rfl⟩))) ?_)
  exact sd_cons (sd_ifd (x := true) (et_test (ed_opd (ed_var rfl) ed_non rd_notN)) (fun _ => by rw [er]; exact sd_rz (ed_var rfl) (.i _) hE r) (fun h => by cases h))
theorem x_good_lotN_no (er : a.er "BadLot" = true) (hp : plainB d = true) (hd : isRowD d = false) (r : R (a.ec "BadLot") [("at", .int (-1))]) : W_good_lot K a [.none, d] P R := fun B E hE => by
  refine sd_cons (sd_asgd (d := .int (-1)) (ed_cX0 (ea_cons (ed_var rfl) (ea_cons (ed_var rfl) ea_nil)) fun B E hE => ?_) ?_)
  · exact sd_cons (sd_ifd (x := true) ((et_not (et_B (ed_isRow hp (ed_var rfl)))).is (by rw [hd]; rfl)) (fun _ => sd_retd (ed_neg ed_int) rfl) (fun h => by cases h))
  · exact sd_cons (sd_ifd (x := true) (et_test (ed_opd (ed_var rfl) ed_non rd_notN)) (fun _ => by rw [er]; exact sd_rz (ed_var rfl) (.i _) hE r) (fun h => by cases h))
theorem ed_lenU {i : Nat} (h : δ[i]? = some (.sh (eU l))) : ED K B (tCB (rLenQ K) (tCons (tVar i) tNil)) δ (· = .int (l.length : Int)) := (ed_lenS (ds := l.map PyData.int) (ed_row h (.inr rfl))).is (by rw [List.length_map])
theorem w_lots_between (TQ : Tq a) (hI : LotIn n I) (hO : LotIn n O) (hn : n ≤ 60) (h8 : O.length ≤ 8) (sub : ∀ x ∈ I, x ∈ O) (hd : RowV (I.map PyData.int) d1) (hd2 : RowV (O.map PyData.int) d2) (hL : LotsB (srt I) (srt O) L) (pr : Pl (L.map eU)) : W_lots_between K a [d1, d2] Pl R := fun B E hE => by
  have lI := lot_len hI
  have lO := lot_len hO
  have zO : (srt O).length = O.length := (srt_perm O).length_eq
  have zI : (srt I).length = I.length := (srt_perm I).length_eq
  have sI := nd_len (m := O) hI.1 sub
  refine gds_plain (sd_asgd (d := eU (srt I)) (ed_cX0 (ea_cons ed_non (ea_cons (ed_var rfl) ea_nil)) (w_good_lotN hI (by omega) hd rfl)) ?_)
  refine gds_plain (sd_asgd (d := eU (srt O)) (ed_cX0 (ea_cons ed_non (ea_cons (ed_var rfl) ea_nil)) (w_good_lotN hO (by omega) hd2 rfl)) ?_)
  refine gds_plain (sd_drop (Pd := fun _ => True) (ed_cX0 (ea_cons (ed_var rfl) (ea_cons (ed_var rfl) ea_nil)) (w_need_inside (fun x hx => mem_srt.mpr (sub x (mem_srt.mp hx))) trivial)) ?_)
  refine gds_plain (sd_drop (Pd := fun _ => True) (ed_cXd (dsd := [.int 8]) (ea_cons (ed_lenU (l := srt O) rfl) ea_nil) (fun G => .one (.int 8)) (w_need_listed (by omega) trivial) EOk.no) ?_)
  exact gds_forY (wd_list (ed_cX0 (P := (· = .list (L.map eU))) (ea_cons (ed_var rfl) (ea_cons (ed_var rfl) ea_nil)) (w_lots_insideB TQ (srt_asc hI) (srt_ok hI) (srt_ok hO) (by omega) (by omega) fun M hM => by rw [hM.eq hL]))) (by show 4 < 5; omega) (by rw [List.length_map]; have := hL.len; show 0 + _ ≤ _; omega) fun s => pr
theorem x_lb_first (h : W_good_lot K a [.none, d1] (fun _ => False) R) : W_lots_between K a [d1, d2] Pl R := fun B E hE =>
  gds_plain (sd_asgG (Pd := fun _ => False) (ed_cX (ea_cons ed_non (ea_cons (ed_var rfl) ea_nil)) h hE) fun _ h => h.elim)
theorem x_lb_second {n : Int} (hI : LotIn n I) (lI : I.length < 64) (hd : RowV (I.map PyData.int) d1) (h : W_good_lot K a [.none, d2] (fun _ => False) R) : W_lots_between K a [d1, d2] Pl R := fun B E hE => by
  refine gds_plain (sd_asgd (d := eU (srt I)) (ed_cX0 (ea_cons ed_non (ea_cons (ed_var rfl) ea_nil)) (w_good_lotN hI lI hd rfl)) ?_)
  exact gds_plain (sd_asgG (Pd := fun _ => False) (ed_cX (ea_cons ed_non (ea_cons (ed_var rfl) ea_nil)) h hE) fun _ h => h.elim)
theorem x_lb_out {m : Int} {q : Int} (er : a.er "NotInside" = true) (h0 : 0 ≤ q) (hO : LotIn m O) (lO : O.length < 64) (hd2 : RowV (O.map PyData.int) d2) (no : q ∉ O) (hd : RowV [.int q] d1) (r : R (a.ec "NotInside") [("place", .int q)]) : W_lots_between K a [d1, d2] Pl R := fun B E hE => by
  have hI : LotIn (q + 1) [q] := ⟨by simp, fun x hx => by rw [List.mem_singleton.mp hx]; omega⟩
  refine gds_plain (sd_asgd (d := eU [q]) (ed_cX0 (ea_cons ed_non (ea_cons (ed_var rfl) ea_nil)) (w_good_lotN (l := [q]) hI (by show 1 < 64; omega) hd (by rw [srt_one]))) ?_)
  refine gds_plain (sd_asgd (d := eU (srt O)) (ed_cX0 (ea_cons ed_non (ea_cons (ed_var rfl) ea_nil)) (w_good_lotN hO lO hd2 rfl)) ?_)
  exact gds_plain (sd_dropx (ed_cX (ea_cons (ed_var rfl) (ea_cons (ed_var rfl) ea_nil)) (x_need_inside er (fun z => no (mem_srt.mp z)) r) hE))
theorem x_lb_many (er : a.er "TooMany" = true) (hI : LotIn n I) (hO : LotIn n O) (hn : n ≤ 60) (h8 : 8 < O.length) (sub : ∀ x ∈ I, x ∈ O) (hd : RowV (I.map PyData.int) d1) (hd2 : RowV (O.map PyData.int) d2) (r : R (a.ec "TooMany") [("size", .int (O.length : Int))]) : W_lots_between K a [d1, d2] Pl R := fun B E hE => by
  have lI := lot_len hI
  have lO := lot_len hO
  have zO : (srt O).length = O.length := (srt_perm O).length_eq
  refine gds_plain (sd_asgd (d := eU (srt I)) (ed_cX0 (ea_cons ed_non (ea_cons (ed_var rfl) ea_nil)) (w_good_lotN hI (by omega) hd rfl)) ?_)
  refine gds_plain (sd_asgd (d := eU (srt O)) (ed_cX0 (ea_cons ed_non (ea_cons (ed_var rfl) ea_nil)) (w_good_lotN hO (by omega) hd2 rfl)) ?_)
  refine gds_plain (sd_drop (Pd := fun _ => True) (ed_cX0 (ea_cons (ed_var rfl) (ea_cons (ed_var rfl) ea_nil)) (w_need_inside (fun x hx => mem_srt.mpr (sub x (mem_srt.mp hx))) trivial)) ?_)
  rw [← zO] at r
  exact gds_plain (sd_dropx (ed_cXd (dsd := [.int 8]) (ea_cons (ed_lenU (l := srt O) rfl) ea_nil) (fun G => .one (.int 8)) (x_need_listed er (by omega) r) hE))
end
end PL
namespace PL
variable [DL.Tb]
open PySem PySem.Spec PyProof.Rows L2 Evl DL FL
section
variable {K : PySem.W.Frag} {a : Ad} {B : Base} {δ : En} {te ta tb tc td tf : TE} {tt tu : TT} {tA : TA} {E : XK} {P : Pd} {Po' : Po} {R : XR} {Cc : Addr} {two : Bool} {n k : Nat} {ts ps : List (Int × Int)} {us vs ws rs l row S T S2 T2 xs ys is A C W X Y D I O U D1 D2 : List Int} {L : List (List Int)} {Pl : List PyData → Prop} {d dl dh dr dt dw x d0 d1 d2 d3 d4 d5 g v : PyData} {ds tl : List PyData} {i j c b m w : Int}
theorem cost_four (hi : ∀ x, x ∈ I ↔ x ∈ X ∧ x ∈ Y) (hu : ∀ x, x ∈ U ↔ x ∈ X ∨ x ∈ Y) (h1 : ∀ x, x ∈ D1 ↔ x ∈ X ∧ x ∉ Y) (h2 : ∀ x, x ∈ D2 ↔ x ∈ Y ∧ x ∉ X) :
    costL two ts us X + costL two ts us Y - (costL two ts us I + costL two ts us U) = (if two = true then 2 else 1) * amt ts us D1 D2 := by
  have q : su (List.range ts.length) (fun t => (if gB two X (ts.getD t (0, 0)) = true then us.getD t 0 else 0) + (if gB two Y (ts.getD t (0, 0)) = true then us.getD t 0 else 0)) =
      su (List.range ts.length) (fun t => ((if gB two I (ts.getD t (0, 0)) = true then us.getD t 0 else 0) + (if gB two U (ts.getD t (0, 0)) = true then us.getD t 0 else 0)) + (if two = true then 2 else 1) * (if btB D1 D2 (ts.getD t (0, 0)) = true then us.getD t 0 else 0)) := su_congr fun t _ => by
    have e1 : ∀ x, decide (x ∈ I) = (decide (x ∈ X) && decide (x ∈ Y)) := fun x => by rw [Bool.eq_iff_iff]; simp [hi x]
    have e2 : ∀ x, decide (x ∈ U) = (decide (x ∈ X) || decide (x ∈ Y)) := fun x => by rw [Bool.eq_iff_iff]; simp [hu x]
    have e3 : ∀ x, decide (x ∈ D1) = (decide (x ∈ X) && !decide (x ∈ Y)) := fun x => by rw [Bool.eq_iff_iff]; simp [h1 x]
    have e4 : ∀ x, decide (x ∈ D2) = (decide (x ∈ Y) && !decide (x ∈ X)) := fun x => by rw [Bool.eq_iff_iff]; simp [h2 x]
    unfold gB btB
    rw [e1, e1, e2, e2, e3, e3, e4, e4]
    generalize us.getD t 0 = u
    generalize ts.getD t (0, 0) = p
    cases two <;> cases decide (p.1 ∈ X) <;> cases decide (p.2 ∈ X) <;> cases decide (p.1 ∈ Y) <;> cases decide (p.2 ∈ Y) <;> simp <;> omega
  rw [su_add, su_add, su_add, su_mul, ← cost_su, ← cost_su, ← cost_su, ← cost_su, ← amt_su] at q
  rw [q]
  generalize (if two = true then (2 : Int) else 1) * amt ts us D1 D2 = z
  omega
theorem cost_apart (hin : InR n ts) (hi : ∀ x, x ∈ I ↔ x ∈ X ∧ x ∈ Y) (ho : ∀ x : Int, 0 ≤ x → x < (n : Int) → (x ∈ O ↔ x ∉ X ∧ x ∉ Y)) (h1 : ∀ x, x ∈ D1 ↔ x ∈ X ∧ x ∉ Y) (h2 : ∀ x, x ∈ D2 ↔ x ∈ Y ∧ x ∉ X) :
    costL true ts us X + costL true ts us Y - (costL true ts us D1 + costL true ts us D2) = 2 * amt ts us I O := by
  have q : su (List.range ts.length) (fun t => (if gB true X (ts.getD t (0, 0)) = true then us.getD t 0 else 0) + (if gB true Y (ts.getD t (0, 0)) = true then us.getD t 0 else 0)) =
      su (List.range ts.length) (fun t => ((if gB true D1 (ts.getD t (0, 0)) = true then us.getD t 0 else 0) + (if gB true D2 (ts.getD t (0, 0)) = true then us.getD t 0 else 0)) + 2 * (if btB I O (ts.getD t (0, 0)) = true then us.getD t 0 else 0)) := su_congr fun t ht => by
    obtain ⟨a0, a1, b0, b1⟩ := inR_at hin (List.mem_range.mp ht)
    have e1 : ∀ x, decide (x ∈ I) = (decide (x ∈ X) && decide (x ∈ Y)) := fun x => by rw [Bool.eq_iff_iff]; simp [hi x]
    have e3 : ∀ x, decide (x ∈ D1) = (decide (x ∈ X) && !decide (x ∈ Y)) := fun x => by rw [Bool.eq_iff_iff]; simp [h1 x]
    have e4 : ∀ x, decide (x ∈ D2) = (decide (x ∈ Y) && !decide (x ∈ X)) := fun x => by rw [Bool.eq_iff_iff]; simp [h2 x]
    have e2 : ∀ x : Int, 0 ≤ x → x < (n : Int) → decide (x ∈ O) = (!decide (x ∈ X) && !decide (x ∈ Y)) := fun x h h' => by rw [Bool.eq_iff_iff]; simp [ho x h h']
    unfold gB btB
    rw [e1, e1, e2 _ a0 a1, e2 _ b0 b1, e3, e3, e4, e4]
    generalize us.getD t 0 = u
    generalize ts.getD t (0, 0) = p
    cases decide (p.1 ∈ X) <;> cases decide (p.2 ∈ X) <;> cases decide (p.1 ∈ Y) <;> cases decide (p.2 ∈ Y) <;> simp <;> omega
  rw [su_add, su_add, su_add, su_mul, ← cost_su, ← cost_su, ← cost_su, ← cost_su, ← amt_su] at q
  omega
theorem w_costs_less (K0 : Nk K a) (hn : n ≤ 12) (hz : ts.length ≤ 1000) (hw : WdOk ts us) (hA : LotIn n A) (hC : LotIn n C) (hX : LotIn n X) (hY : LotIn n Y) (pr : P (.int (costL two ts us A + costL two ts us C - (costL two ts us X + costL two ts us Y)))) :
    W_costs_less K a [eNet (cC a two) (n : Int) ts, eU us, .tuple [eU A, eU C], .tuple [eU X, eU Y]] P R := fun B E hE => by
  have two' : ∀ {δ : En} {q : Nat} {A C : List Int}, LotIn n A → LotIn n C → δ[0]? = some (.sh (eNet (cC a two) (n : Int) ts)) → δ[1]? = some (.sh (eU us)) → δ[q]? = some (.sh (.tuple [eU A, eU C])) → δ.length = 6 → q < 5 → ED K B (tCB (rSum K) (tCons (tLc (iTup K (tVar q)) (gName 5) tYes (tCall (SpWX K 3 (W_cost K a)) [] E0 (tCons (tVar 0) (tCons (tVar 1) (tCons (tVar 5) tNil)))) [5]) tNil)) δ (· = .int (costL two ts us A + costL two ts us C)) := fun {δ q A C} hA hC h0 h1 hq hl q5 => by
    obtain ⟨s0, s1, s2, s3, s4, s5, rfl⟩ : ∃ s0 s1 s2 s3 s4 s5, δ = [s0, s1, s2, s3, s4, s5] := by
      match δ, hl with
      | [s0, s1, s2, s3, s4, s5], _ => exact ⟨_, _, _, _, _, _, rfl⟩
    cases h0
    cases h1
    refine (ed_cb (ea_cons (EL.edd (ds := [costL two ts us A, costL two ts us C].map PyData.int) (el_mapx [A, C] eU (fun x y e => eU_inj e) (fun l => .int (costL two ts us l)) (wd_tup (ed_var hq)) (fun l hl => ⟨_, _, gd_name, by simp, ed_cX0 (ea_cons (ed_var rfl) (ea_cons (ed_var rfl) (ea_cons (ed_var rfl) ea_nil))) (w_cost K0 hw hz (.inr rfl) (l := l) ?_ ?_ (.inr rfl) rfl)⟩) (by show 2 ≤ 50000; omega))) ea_nil) cd_sum).is ?_
    · simp only [List.mem_cons, List.not_mem_nil, or_false] at hl
      rcases hl with rfl | rfl
      · exact hA
      · exact hC
    · simp only [List.mem_cons, List.not_mem_nil, or_false] at hl
      have := lot_len hA
      have := lot_len hC
      rcases hl with rfl | rfl <;> omega
    · rw [List.sum_cons, List.sum_cons, List.sum_nil, Int.add_zero]
  refine sd_cons (sd_asgd (two' hA hC rfl rfl rfl rfl (by omega)) ?_)
  exact sd_retd (ed_opi (f := fun i j => i - j) (ed_var rfl) (two' hX hY rfl rfl rfl rfl (by omega))) pr
def unL (X Y : List Int) : List Int := srt (X ++ minL Y X)
theorem mem_unL {x : Int} : x ∈ unL X Y ↔ x ∈ X ∨ x ∈ Y := by
  unfold unL
  rw [mem_srt, List.mem_append, mem_minL]
  by_cases c : x ∈ X <;> simp [c]
theorem unL_ok (hX : LotIn n X) (hY : LotIn n Y) : LotIn n (unL X Y) := srt_ok ⟨List.nodup_append.mpr ⟨hX.1, (minL_ok hY).1, fun x hx y hy e => (mem_minL.mp hy).2 (e ▸ hx)⟩, fun x hx => (List.mem_append.mp hx).elim (hX.2 x) fun h => hY.2 x (mem_minL.mp h).1⟩
theorem unL_asc (hX : LotIn n X) (hY : LotIn n Y) : (unL X Y).Pairwise (· < ·) := asc_of (srt_le _) (unL_ok hX hY).1
theorem w_both_eq (hX : LotIn n X) (hY : LotIn n Y) (hn : n ≤ 12) {d1 d2 : PyData} (h1 : RowV (X.map PyData.int) d1) (h2 : RowV (Y.map PyData.int) d2) (p : P (eU (unL X Y))) : W_both K a [d1, d2] P R :=
  w_both hX.2 hY.2 hn (by have := lot_len hX; omega) (by have := lot_len hY; omega) h1 h2 fun out o1 o2 => by
    rw [asc_eq o1 (unL_asc hX hY) fun x => by rw [o2, mem_unL]]
    exact p
theorem w_spared (K0 : Nk K a) (hn : n ≤ 12) (hz : ts.length ≤ 1000) (hw : WdOk ts us) (hd : RowV (us.map PyData.int) d) (hX : LotIn n X) (h1 : RowV (X.map PyData.int) d1) (hY : LotIn n Y) (h2 : RowV (Y.map PyData.int) d2) (pr : P (.int ((if two = true then 2 else 1) * amt ts us (minL X Y) (minL Y X)))) :
    W_spared K a [eNet (cC a two) (n : Int) ts, d, d1, d2] P R := fun B E hE => by
  have lX := lot_len hX
  have lY := lot_len hY
  have zX : (srt X).length = X.length := (srt_perm X).length_eq
  refine sd_cons (sd_asgd (d := eU us) (ed_cX0 (ea_cons (ed_var rfl) (ea_cons (ed_var rfl) ea_nil)) (w_world_of K0 hw hz hd rfl)) ?_)
  refine sd_cons (sd_asgd (d := eU (srt X)) (ed_cX0 (ea_cons (ed_size (K0.n two) rfl) (ea_cons (ed_var rfl) ea_nil)) (w_good_lot2 hX hn h1 rfl)) ?_)
  refine sd_cons (sd_asgd (d := eU (srt Y)) (ed_cX0 (ea_cons (ed_size (K0.n two) rfl) (ea_cons (ed_var rfl) ea_nil)) (w_good_lot2 hY hn h2 rfl)) ?_)
  refine sd_cons (sd_asgd (ed_tup (ds := [eU ((srt (srt X)).filter fun x => decide (x ∈ srt Y)), eU (unL (srt X) (srt Y))]) (ea_cons (ed_cX0 (ea_cons (ed_var rfl) (ea_cons (ed_var rfl) ea_nil)) (w_common (by omega) (.inr rfl) (.inr rfl) rfl)) (ea_cons (ed_cX0 (ea_cons (ed_var rfl) (ea_cons (ed_var rfl) ea_nil)) (w_both_eq (srt_ok hX) (srt_ok hY) hn (.inr rfl) (.inr rfl) rfl)) ea_nil)) (by show 2 ≤ 100000; omega)) ?_)
  refine sd_ret (Pd := P) (ed_cX0 (ea_cons (ed_var rfl) (ea_cons (ed_var rfl) (ea_cons (ed_tup (ds := [eU (srt X), eU (srt Y)]) (ea_cons (ed_var rfl) (ea_cons (ed_var rfl) ea_nil)) (by show 2 ≤ 100000; omega)) (ea_cons (ed_var rfl) ea_nil)))) (w_costs_less K0 hn hz hw (srt_ok hX) (srt_ok hY) ⟨(srt_ok (srt_ok hX)).1.filter _, fun x hx => (srt_ok (srt_ok hX)).2 x (List.mem_filter.mp hx).1⟩ (unL_ok (srt_ok hX) (srt_ok hY)) ?_)) fun d p => p
  rw [cost_four (two := two) (D1 := minL X Y) (D2 := minL Y X) (fun x => by rw [List.mem_filter, decide_eq_true_iff, mem_srt]) (fun x => mem_unL) (fun x => by rw [mem_minL, mem_srt, mem_srt]) (fun x => by rw [mem_minL, mem_srt, mem_srt])]
  exact pr
theorem w_spared_apart (K0 : Nk K a) (hn : n ≤ 12) (hin : InR n ts) (hz : ts.length ≤ 1000) (hw : WdOk ts us) (hd : RowV (us.map PyData.int) d) (hX : LotIn n X) (h1 : RowV (X.map PyData.int) d1) (hY : LotIn n Y) (h2 : RowV (Y.map PyData.int) d2) (hi : ∀ x, x ∈ I ↔ x ∈ X ∧ x ∈ Y) (ho : ∀ x : Int, 0 ≤ x → x < (n : Int) → (x ∈ O ↔ x ∉ X ∧ x ∉ Y)) (pr : P (.int (2 * amt ts us I O))) :
    W_spared_apart K a [eNet (cC a true) (n : Int) ts, d, d1, d2] P R := fun B E hE => by
  have lX := lot_len hX
  have lY := lot_len hY
  have zX : (srt X).length = X.length := (srt_perm X).length_eq
  have zY : (srt Y).length = Y.length := (srt_perm Y).length_eq
  have ok : ∀ {X Y : List Int}, LotIn n X → LotIn n ((srt (srt X)).filter fun x => !decide (x ∈ Y)) := fun {X Y} hX => ⟨(srt_ok (srt_ok hX)).1.filter _, fun x hx => (srt_ok (srt_ok hX)).2 x (List.mem_filter.mp hx).1⟩
  refine sd_cons (sd_drop (Pd := fun _ => True) (ed_cX0 (ea_cons (ed_var rfl) ea_nil) (w_check_twoway K0 trivial)) ?_)
  refine sd_cons (sd_asgd (d := eU us) (ed_cX0 (ea_cons (ed_var rfl) (ea_cons (ed_var rfl) ea_nil)) (w_world_of K0 hw hz hd rfl)) ?_)
  refine sd_cons (sd_asgd (d := eU (srt X)) (ed_cX0 (ea_cons (ed_size (K0.n true) rfl) (ea_cons (ed_var rfl) ea_nil)) (w_good_lot2 hX hn h1 rfl)) ?_)
  refine sd_cons (sd_asgd (d := eU (srt Y)) (ed_cX0 (ea_cons (ed_size (K0.n true) rfl) (ea_cons (ed_var rfl) ea_nil)) (w_good_lot2 hY hn h2 rfl)) ?_)
  refine sd_cons (sd_asgd (ed_tup (ds := [eU ((srt (srt X)).filter fun x => !decide (x ∈ srt Y)), eU ((srt (srt Y)).filter fun x => !decide (x ∈ srt X))]) (ea_cons (ed_cX0 (ea_cons (ed_var rfl) (ea_cons (ed_var rfl) ea_nil)) (w_minus (by omega) (.inr rfl) (.inr rfl) rfl)) (ea_cons (ed_cX0 (ea_cons (ed_var rfl) (ea_cons (ed_var rfl) ea_nil)) (w_minus (by omega) (.inr rfl) (.inr rfl) rfl)) ea_nil)) (by show 2 ≤ 100000; omega)) ?_)
  refine sd_ret (Pd := P) (ed_cX0 (ea_cons (ed_var rfl) (ea_cons (ed_var rfl) (ea_cons (ed_tup (ds := [eU (srt X), eU (srt Y)]) (ea_cons (ed_var rfl) (ea_cons (ed_var rfl) ea_nil)) (by show 2 ≤ 100000; omega)) (ea_cons (ed_var rfl) ea_nil)))) (w_costs_less K0 hn hz hw (srt_ok hX) (srt_ok hY) (ok hX) (ok hY) ?_)) fun d p => p
  have mm : ∀ {X Y : List Int} (x : Int), x ∈ ((srt (srt X)).filter fun x => !decide (x ∈ srt Y)) ↔ x ∈ srt X ∧ x ∉ srt Y := fun {X Y} x => by rw [List.mem_filter, mem_srt]; simp
  rw [cost_apart hin (I := I) (O := O) (fun x => by rw [hi, mem_srt, mem_srt]) (fun x h h' => by rw [ho x h h', mem_srt, mem_srt]) mm mm]
  exact pr
theorem wd_tupF (h : ED K B te δ (fun _ => False)) : WD K B (iTup K te) δ (fun _ => False) := fun G H σ E R q => h G H σ E _ fun v d G1 H1 pd m r => pd.elim
theorem ed_lcF {wi : TI} {gg : TG} {vs : List Nat} (h : WD K B wi δ (fun _ => False)) : ED K B (tLc wi gg tt te vs) δ P := fun G H σ E Q q => h G H σ E _ fun J ds G1 H1 pd m j => pd.elim
theorem ed_cbF {r : List V → Hp → VK → Prop} (h : EA K B tA δ (fun _ => False)) : ED K B (tCB r tA) δ P := fun G H σ E Q q => h G H σ E _ fun vs ds G1 H1 pd m j => pd.elim
theorem ed_cF {sp : Sp} {dv : List V} (h : EA K B tA δ (fun _ => False)) : ED K B (tCall sp dv E tA) δ P := fun G H σ Ev Q q => h G H σ Ev _ fun vs ds G1 H1 pd m j => pd.elim
theorem x_lot_of (n1 : 1 ≤ n) (hn : n ≤ 12) (h : W_good_lot K a [.int (n : Int), d] (fun _ => False) R) : W_lot_of K a [.int (n : Int), d] P R := fun B E hE =>
  sd_ret (Pd := fun _ => False) (ed_cX (ds := [.int (n : Int), d]) (ea_cons (ed_cX0 (P := (· = .int (n : Int))) (ea_cons (ed_var rfl) ea_nil) (w_good_size (by omega) (by omega) rfl)) (ea_cons (ed_var rfl) ea_nil)) h hE) fun _ h => h.elim
theorem x_world_of (K0 : Nk K a) (h : W_good_world K a [.int (ts.length : Int), d] (fun _ => False) R) : W_world_of K a [eNet (cC a two) (n : Int) ts, d] P R := fun B E hE =>
  sd_ret (Pd := fun _ => False) (ed_cX (ds := [.int (ts.length : Int), d]) (ea_cons (ed_many K0 rfl) (ea_cons (ed_var rfl) ea_nil)) h hE) fun _ h => h.elim
theorem x_gates2 (T : NetTxt K Cc) (h : W_good_lot K a [.int (n : Int), d] (fun _ => False) R) : W_gates2 K a two [eNet Cc (n : Int) ts, d] P R := by
  cases two
  · exact fun B E hE => sd_cons (sd_asgG (Pd := fun _ => False) (ed_cX (ds := [.int (n : Int), d]) (ea_cons (ed_size T rfl) (ea_cons (ed_var rfl) ea_nil)) h hE) fun _ h => h.elim)
  · exact fun B E hE => sd_cons (sd_asgG (Pd := fun _ => False) (ed_cX (ds := [.int (n : Int), d]) (ea_cons (ed_size T rfl) (ea_cons (ed_var rfl) ea_nil)) h hE) fun _ h => h.elim)
theorem x_Net_inner (T : NetTxt K Cc) (h : W_good_lot K a [.int (n : Int), d] (fun _ => False) R) : W_Net_inner K a [eNet Cc (n : Int) ts, d] P R := fun B E hE =>
  sd_cons (sd_asgG (Pd := fun _ => False) (ed_cX (ds := [.int (n : Int), d]) (ea_cons (ed_size T rfl) (ea_cons (ed_var rfl) ea_nil)) h hE) fun _ h => h.elim)
theorem x_bt_first (T : NetTxt K Cc) (h : W_good_lot K a [.int (n : Int), d] (fun _ => False) R) : W_Net_between K a [eNet Cc (n : Int) ts, d, d1] P R := fun B E hE =>
  sd_cons (sd_asgG (Pd := fun _ => False) (ed_cX (ds := [.int (n : Int), d]) (ea_cons (ed_size T rfl) (ea_cons (ed_var rfl) ea_nil)) h hE) fun _ h => h.elim)
theorem x_bt_second (T : NetTxt K Cc) (hn : n ≤ 12) (hX : LotIn n X) (h1 : RowV (X.map PyData.int) d1) (h : W_good_lot K a [.int (n : Int), d] (fun _ => False) R) : W_Net_between K a [eNet Cc (n : Int) ts, d1, d] P R := fun B E hE => by
  refine sd_cons (sd_asgd (d := eU (srt X)) (ed_cX0 (ea_cons (ed_size T rfl) (ea_cons (ed_var rfl) ea_nil)) (w_good_lot2 hX hn h1 rfl)) ?_)
  exact sd_cons (sd_asgG (Pd := fun _ => False) (ed_cX (ds := [.int (n : Int), d]) (ea_cons (ed_size T rfl) (ea_cons (ed_var rfl) ea_nil)) h hE) fun _ h => h.elim)
theorem x_cost_world (K0 : Nk K a) (h : W_good_world K a [.int (ts.length : Int), d] (fun _ => False) R) : W_cost K a [eNet (cC a two) (n : Int) ts, d, d1] P R := fun B E hE =>
  sd_cons (sd_asgG (Pd := fun _ => False) (ed_cX (ds := [eNet (cC a two) (n : Int) ts, d]) (ea_cons (ed_var rfl) (ea_cons (ed_var rfl) ea_nil)) (x_world_of K0 h) hE) fun _ h => h.elim)
theorem x_cost_lot (K0 : Nk K a) (hz : ts.length ≤ 1000) (hw : WdOk ts us) (hd : RowV (us.map PyData.int) d) (h : W_good_lot K a [.int (n : Int), d1] (fun _ => False) R) : W_cost K a [eNet (cC a two) (n : Int) ts, d, d1] P R := fun B E hE => by
  refine sd_cons (sd_asgd (d := eU us) (ed_cX0 (ea_cons (ed_var rfl) (ea_cons (ed_var rfl) ea_nil)) (w_world_of K0 hw hz hd rfl)) ?_)
  exact sd_ret (Pd := fun _ => False) (ed_cF (ea_c (ed_var (d := eU us) rfl) (ea_x (ed_mX (r_gates K a two) nog_net (ed_var rfl) (ea_cons (ed_var rfl) ea_nil) (x_gates2 (K0.n two) h) hE)))) fun _ h => h.elim
theorem x_sp_world (K0 : Nk K a) (h : W_good_world K a [.int (ts.length : Int), d] (fun _ => False) R) : W_spared K a [eNet (cC a two) (n : Int) ts, d, d1, d2] P R := fun B E hE =>
  sd_cons (sd_asgG (Pd := fun _ => False) (ed_cX (ds := [eNet (cC a two) (n : Int) ts, d]) (ea_cons (ed_var rfl) (ea_cons (ed_var rfl) ea_nil)) (x_world_of K0 h) hE) fun _ h => h.elim)
theorem x_sp_first (K0 : Nk K a) (hz : ts.length ≤ 1000) (hw : WdOk ts us) (hd : RowV (us.map PyData.int) d) (h : W_good_lot K a [.int (n : Int), d1] (fun _ => False) R) : W_spared K a [eNet (cC a two) (n : Int) ts, d, d1, d2] P R := fun B E hE => by
  refine sd_cons (sd_asgd (d := eU us) (ed_cX0 (ea_cons (ed_var rfl) (ea_cons (ed_var rfl) ea_nil)) (w_world_of K0 hw hz hd rfl)) ?_)
  exact sd_cons (sd_asgG (Pd := fun _ => False) (ed_cX (ds := [.int (n : Int), d1]) (ea_cons (ed_size (K0.n two) rfl) (ea_cons (ed_var rfl) ea_nil)) h hE) fun _ h => h.elim)
theorem x_sp_second (K0 : Nk K a) (hn : n ≤ 12) (hz : ts.length ≤ 1000) (hw : WdOk ts us) (hd : RowV (us.map PyData.int) d) (hX : LotIn n X) (h1 : RowV (X.map PyData.int) d1) (h : W_good_lot K a [.int (n : Int), d2] (fun _ => False) R) : W_spared K a [eNet (cC a two) (n : Int) ts, d, d1, d2] P R := fun B E hE => by
  refine sd_cons (sd_asgd (d := eU us) (ed_cX0 (ea_cons (ed_var rfl) (ea_cons (ed_var rfl) ea_nil)) (w_world_of K0 hw hz hd rfl)) ?_)
  refine sd_cons (sd_asgd (d := eU (srt X)) (ed_cX0 (ea_cons (ed_size (K0.n two) rfl) (ea_cons (ed_var rfl) ea_nil)) (w_good_lot2 hX hn h1 rfl)) ?_)
  exact sd_cons (sd_asgG (Pd := fun _ => False) (ed_cX (ds := [.int (n : Int), d2]) (ea_cons (ed_size (K0.n two) rfl) (ea_cons (ed_var rfl) ea_nil)) h hE) fun _ h => h.elim)
theorem x_sa_way (K0 : Nk K a) (er : a.er "NotTwoway" = true) (r : R (a.ec "NotTwoway") []) : W_spared_apart K a [eNet (cC a false) (n : Int) ts, d, d1, d2] P R := fun B E hE =>
  sd_cons (sd_dropx (ed_cX (ea_cons (ed_var rfl) ea_nil) (x_check_twoway K0 er r) hE))
theorem x_sa_world (K0 : Nk K a) (h : W_good_world K a [.int (ts.length : Int), d] (fun _ => False) R) : W_spared_apart K a [eNet (cC a true) (n : Int) ts, d, d1, d2] P R := fun B E hE => by
  refine sd_cons (sd_drop (Pd := fun _ => True) (ed_cX0 (ea_cons (ed_var rfl) ea_nil) (w_check_twoway K0 trivial)) ?_)
  exact sd_cons (sd_asgG (Pd := fun _ => False) (ed_cX (ds := [eNet (cC a true) (n : Int) ts, d]) (ea_cons (ed_var rfl) (ea_cons (ed_var rfl) ea_nil)) (x_world_of K0 h) hE) fun _ h => h.elim)
theorem x_sa_first (K0 : Nk K a) (hz : ts.length ≤ 1000) (hw : WdOk ts us) (hd : RowV (us.map PyData.int) d) (h : W_good_lot K a [.int (n : Int), d1] (fun _ => False) R) : W_spared_apart K a [eNet (cC a true) (n : Int) ts, d, d1, d2] P R := fun B E hE => by
  refine sd_cons (sd_drop (Pd := fun _ => True) (ed_cX0 (ea_cons (ed_var rfl) ea_nil) (w_check_twoway K0 trivial)) ?_)
  refine sd_cons (sd_asgd (d := eU us) (ed_cX0 (ea_cons (ed_var rfl) (ea_cons (ed_var rfl) ea_nil)) (w_world_of K0 hw hz hd rfl)) ?_)
  exact sd_cons (sd_asgG (Pd := fun _ => False) (ed_cX (ds := [.int (n : Int), d1]) (ea_cons (ed_size (K0.n true) rfl) (ea_cons (ed_var rfl) ea_nil)) h hE) fun _ h => h.elim)
theorem x_sa_second (K0 : Nk K a) (hn : n ≤ 12) (hz : ts.length ≤ 1000) (hw : WdOk ts us) (hd : RowV (us.map PyData.int) d) (hX : LotIn n X) (h1 : RowV (X.map PyData.int) d1) (h : W_good_lot K a [.int (n : Int), d2] (fun _ => False) R) : W_spared_apart K a [eNet (cC a true) (n : Int) ts, d, d1, d2] P R := fun B E hE => by
  refine sd_cons (sd_drop (Pd := fun _ => True) (ed_cX0 (ea_cons (ed_var rfl) ea_nil) (w_check_twoway K0 trivial)) ?_)
  refine sd_cons (sd_asgd (d := eU us) (ed_cX0 (ea_cons (ed_var rfl) (ea_cons (ed_var rfl) ea_nil)) (w_world_of K0 hw hz hd rfl)) ?_)
  refine sd_cons (sd_asgd (d := eU (srt X)) (ed_cX0 (ea_cons (ed_size (K0.n true) rfl) (ea_cons (ed_var rfl) ea_nil)) (w_good_lot2 hX hn h1 rfl)) ?_)
  exact sd_cons (sd_asgG (Pd := fun _ => False) (ed_cX (ds := [.int (n : Int), d2]) (ea_cons (ed_size (K0.n true) rfl) (ea_cons (ed_var rfl) ea_nil)) h hE) fun _ h => h.elim)
end
end PL
namespace PL
variable [DL.Tb]
open PySem PySem.Spec PyProof.Rows L2 Evl DL FL
section
variable {K : PySem.W.Frag} {a : Ad} {B : Base} {δ : En} {te ta tb tc td tf : TE} {tt tu : TT} {tA : TA} {E : XK} {P : Pd} {Po' : Po} {R : XR} {Cc : Addr} {two : Bool} {n k : Nat} {ts ps : List (Int × Int)} {us vs ws rs l row S T S2 T2 xs ys is A C W X Y Z D I O U D1 D2 : List Int} {L : List (List Int)} {Pl : List PyData → Prop} {d dl dh dr dt dw x d0 d1 d2 d3 d4 d5 g v : PyData} {ds tl : List PyData} {i j c b m w : Int}
def inX (X Y : List Int) : List Int := (srt X).filter fun x => decide (x ∈ Y)
def outX (X Y : List Int) : List Int := (srt X).filter fun x => !decide (x ∈ Y)
theorem mem_inX {x : Int} : x ∈ inX X Y ↔ x ∈ X ∧ x ∈ Y := by unfold inX; rw [List.mem_filter, decide_eq_true_iff, mem_srt]
theorem mem_outX {x : Int} : x ∈ outX X Y ↔ x ∈ X ∧ x ∉ Y := by unfold outX; rw [List.mem_filter, mem_srt]; simp
theorem inX_asc (hX : LotIn n X) : (inX X Y).Pairwise (· < ·) := (srt_asc hX).filter _
theorem outX_asc (hX : LotIn n X) : (outX X Y).Pairwise (· < ·) := (srt_asc hX).filter _
theorem inX_ok (hX : LotIn n X) : LotIn n (inX X Y) := ⟨asc_nd (inX_asc hX), fun x hx => hX.2 x (mem_inX.mp hx).1⟩
theorem outX_ok (hX : LotIn n X) : LotIn n (outX X Y) := ⟨asc_nd (outX_asc hX), fun x hx => hX.2 x (mem_outX.mp hx).1⟩
theorem rst_asc {n : Nat} {l : List Int} : (restL n l).Pairwise (· < ·) := by
  unfold restL
  exact List.pairwise_map.mpr ((List.pairwise_lt_range.filter _).imp fun h => by omega)
def cn (n : Nat) (X Y : List Int) : List (List Int) := [inX X Y, outX X Y, outX Y X, restL n (unL X Y)]
theorem cn_ext (hX : LotIn n X) (hZ : LotIn n Z) (hY : LotIn n Y) (h : ∀ x, x ∈ Z ↔ x ∈ X) : cn n Z Y = cn n X Y := by
  unfold cn
  rw [asc_eq (inX_asc (Y := Y) hZ) (inX_asc (Y := Y) hX) fun x => by rw [mem_inX, mem_inX, h], asc_eq (outX_asc (Y := Y) hZ) (outX_asc (Y := Y) hX) fun x => by rw [mem_outX, mem_outX, h],
    asc_eq (outX_asc (Y := Z) hY) (outX_asc (Y := X) hY) fun x => by rw [mem_outX, mem_outX, h], asc_eq (rst_asc (n := n) (l := unL Z Y)) (rst_asc (l := unL X Y)) fun x => by rw [mem_restL, mem_restL, mem_unL, mem_unL, h]]
theorem cn_rest (hX : LotIn n X) (hY : LotIn n Y) : cn n (restL n X) Y = [outX Y X, restL n (unL X Y), inX X Y, outX X Y] := by
  have hR : LotIn n (restL n X) := restL_ok
  unfold cn
  rw [asc_eq (inX_asc (Y := Y) hR) (outX_asc (Y := X) hY) fun x => ?_, asc_eq (outX_asc (Y := Y) hR) (rst_asc (n := n) (l := unL X Y)) fun x => ?_, asc_eq (outX_asc (Y := restL n X) hY) (inX_asc (Y := Y) hX) fun x => ?_, asc_eq (rst_asc (n := n) (l := unL (restL n X) Y)) (outX_asc (Y := Y) hX) fun x => ?_]
  · rw [mem_restL, mem_outX, mem_unL, mem_restL]
    exact ⟨fun h => ⟨Classical.byContradiction fun z => h.2 (.inl ⟨h.1, z⟩), fun z => h.2 (.inr z)⟩, fun h => ⟨hX.2 x h.1, fun z => z.elim (fun z => z.2 h.1) h.2⟩⟩
  · rw [mem_outX, mem_inX, mem_restL]
    exact ⟨fun h => ⟨Classical.byContradiction fun z => h.2 ⟨hY.2 x h.1, z⟩, h.1⟩, fun h => ⟨h.2, fun z => z.2 h.1⟩⟩
  · rw [mem_outX, mem_restL, mem_restL, mem_unL]
    exact ⟨fun h => ⟨h.1.1, fun z => z.elim h.1.2 h.2⟩, fun h => ⟨⟨h.1, fun z => h.2 (.inl z)⟩, fun z => h.2 (.inr z)⟩⟩
  · rw [mem_inX, mem_outX, mem_restL]
    exact ⟨fun h => ⟨h.2, h.1.2⟩, fun h => ⟨⟨hY.2 x h.1, h.2⟩, h.1⟩⟩
theorem cn_len (hX : LotIn n X) (hY : LotIn n Y) : ((cn n X Y).map fun l => (l.length : Int)).sum = (n : Int) := by
  have p : (inX X Y ++ (outX X Y ++ (outX Y X ++ restL n (unL X Y)))).Perm (allN n) := by
    refine (List.perm_ext_iff_of_nodup ?_ (asc_nd ?_)).mpr fun x => ?_
    · refine List.nodup_append.mpr ⟨(inX_ok hX).1, List.nodup_append.mpr ⟨(outX_ok hX).1, List.nodup_append.mpr ⟨(outX_ok hY).1, restL_ok.1, fun x hx y hy e => ?_⟩, fun x hx y hy e => ?_⟩, fun x hx y hy e => ?_⟩
      · subst e
        exact (mem_restL.mp hy).2 (mem_unL.mpr (.inr (mem_outX.mp hx).1))
      · subst e
        rcases List.mem_append.mp hy with hy | hy
        · exact (mem_outX.mp hy).2 (mem_outX.mp hx).1
        · exact (mem_restL.mp hy).2 (mem_unL.mpr (.inl (mem_outX.mp hx).1))
      · subst e
        have q := mem_inX.mp hx
        rcases List.mem_append.mp hy with hy | hy
        · exact (mem_outX.mp hy).2 q.2
        · rcases List.mem_append.mp hy with hy | hy
          · exact (mem_outX.mp hy).2 q.1
          · exact (mem_restL.mp hy).2 (mem_unL.mpr (.inl q.1))
    · exact List.pairwise_map.mpr (List.pairwise_lt_range.imp fun h => by omega)
    · have ma : x ∈ allN n ↔ 0 ≤ x ∧ x < (n : Int) := by
        unfold allN
        rw [List.mem_map]
        exact ⟨fun ⟨k, hk, e⟩ => by have := List.mem_range.mp hk; omega, fun h => ⟨x.toNat, List.mem_range.mpr (by omega), by omega⟩⟩
      rw [List.mem_append, List.mem_append, List.mem_append, mem_inX, mem_outX, mem_outX, mem_restL, mem_unL, ma]
      constructor
      · rintro (h | h | h | h)
        · exact hX.2 x h.1
        · exact hX.2 x h.1
        · exact hY.2 x h.1
        · exact h.1
      · intro h
        by_cases c1 : x ∈ X <;> by_cases c2 : x ∈ Y <;> simp [c1, c2, h.1, h.2]
  have q := p.length_eq
  rw [all_len, List.length_append, List.length_append, List.length_append] at q
  unfold cn
  rw [List.map_cons, List.map_cons, List.map_cons, List.map_cons, List.map_nil, List.sum_cons, List.sum_cons, List.sum_cons, List.sum_cons, List.sum_nil]
  omega
def crB (n : Nat) (X Y : List Int) : Bool := ((cn n X Y).map fun l => decide ((0 : Int) < (l.length : Int))).all id
theorem crB_rest (hX : LotIn n X) (hY : LotIn n Y) : crB n (restL n X) Y = crB n X Y := by
  unfold crB
  rw [cn_rest hX hY]
  unfold cn
  simp only [List.map_cons, List.map_nil, List.all_cons, List.all_nil, id_eq]
  cases decide ((0 : Int) < ((inX X Y).length : Int)) <;> cases decide ((0 : Int) < ((outX X Y).length : Int)) <;> cases decide ((0 : Int) < ((outX Y X).length : Int)) <;> cases decide ((0 : Int) < ((restL n (unL X Y)).length : Int)) <;> rfl
theorem crB_comm (hX : LotIn n X) (hY : LotIn n Y) : crB n Y X = crB n X Y := by
  unfold crB cn
  rw [asc_eq (inX_asc (Y := X) hY) (inX_asc (Y := Y) hX) fun x => by rw [mem_inX, mem_inX]; exact And.comm, asc_eq (rst_asc (n := n) (l := unL Y X)) (rst_asc (l := unL X Y)) fun x => by rw [mem_restL, mem_restL, mem_unL, mem_unL, Or.comm]]
  simp only [List.map_cons, List.map_nil, List.all_cons, List.all_nil, id_eq]
  cases decide ((0 : Int) < ((inX X Y).length : Int)) <;> cases decide ((0 : Int) < ((outX X Y).length : Int)) <;> cases decide ((0 : Int) < ((outX Y X).length : Int)) <;> cases decide ((0 : Int) < ((restL n (unL X Y)).length : Int)) <;> rfl
theorem un_srt (hX : LotIn n X) (hY : LotIn n Y) : unL (srt X) (srt Y) = unL X Y := asc_eq (unL_asc (srt_ok hX) (srt_ok hY)) (unL_asc hX hY) fun x => by rw [mem_unL, mem_unL, mem_srt, mem_srt]
theorem in_srt (hX : LotIn n X) : ((srt (srt X)).filter fun x => decide (x ∈ srt Y)) = inX X Y := by
  unfold inX
  rw [srt_srt]
  exact List.filter_congr fun x _ => by rw [decide_eq_decide, mem_srt]
theorem out_srt (hX : LotIn n X) : ((srt (srt X)).filter fun x => !decide (x ∈ srt Y)) = outX X Y := by
  unfold outX
  rw [srt_srt]
  exact List.filter_congr fun x _ => congrArg (! ·) (by rw [decide_eq_decide, mem_srt])
theorem w_corners (n1 : 1 ≤ n) (hn : n ≤ 12) (hX : LotIn n X) (h1 : RowV (X.map PyData.int) d1) (hY : LotIn n Y) (h2 : RowV (Y.map PyData.int) d2) (p : P (.tuple ((cn n X Y).map eU))) : W_corners K a [.int (n : Int), d1, d2] P R := fun B E hE => by
  have lX := lot_len hX
  have lY := lot_len hY
  have zX : (srt X).length = X.length := (srt_perm X).length_eq
  have zY : (srt Y).length = Y.length := (srt_perm Y).length_eq
  refine sd_cons (sd_drop (Pd := fun _ => True) (ed_cX0 (ea_cons (ed_var rfl) ea_nil) (w_good_size (by omega) (by omega) trivial)) ?_)
  refine sd_cons (sd_asgd (d := eU (srt X)) (ed_cX0 (ea_cons (ed_var rfl) (ea_cons (ed_var rfl) ea_nil)) (w_good_lot2 hX hn h1 rfl)) ?_)
  refine sd_cons (sd_asgd (d := eU (srt Y)) (ed_cX0 (ea_cons (ed_var rfl) (ea_cons (ed_var rfl) ea_nil)) (w_good_lot2 hY hn h2 rfl)) ?_)
  refine sd_cons (sd_asgd (d := eU (restL n (unL X Y))) (ed_cX0 (ea_cons (ed_var rfl) (ea_cons (ed_cX0 (P := (· = eU (unL X Y))) (ea_cons (ed_var rfl) (ea_cons (ed_var rfl) ea_nil)) (w_both_eq (srt_ok hX) (srt_ok hY) hn (.inr rfl) (.inr rfl) (by rw [un_srt hX hY]))) ea_nil)) (w_rest (by omega) rfl)) ?_)
  exact sd_retd (ed_tup (ds := (cn n X Y).map eU) (ea_cons (ed_cX0 (ea_cons (ed_var rfl) (ea_cons (ed_var rfl) ea_nil)) (w_common (S := srt X) (T := srt Y) (by omega) (.inr rfl) (.inr rfl) (by rw [in_srt hX]))) (ea_cons (ed_cX0 (ea_cons (ed_var rfl) (ea_cons (ed_var rfl) ea_nil)) (w_minus (S := srt X) (T := srt Y) (by omega) (.inr rfl) (.inr rfl) (by rw [out_srt hX]))) (ea_cons (ed_cX0 (ea_cons (ed_var rfl) (ea_cons (ed_var rfl) ea_nil)) (w_minus (S := srt Y) (T := srt X) (by omega) (.inr rfl) (.inr rfl) (by rw [out_srt hY]))) (ea_cons (ed_var rfl) ea_nil)))) (by show 4 ≤ 100000; omega)) p
theorem ed_four {δ : En} {q : Nat} {vs : List Nat} (h : ED K B te δ (· = .tuple (L.map eU))) (hz : L.length ≤ 100) (hq : q < δ.length) : ED K B (tCB (rAll K) (tCons (tLc (iTup K te) (gName q) tYes (tOp (rI0 fun i j => .bl (decide (j < i))) (tCB (rLenQ K) (tCons (tVar q) tNil)) (tC (.int 0))) [q]) tNil)) δ (· = .bool ((L.map fun l => decide ((0 : Int) < (l.length : Int))).all id)) := by
  have e : (wipeD δ [q]).length = δ.length := by simp [wipeD]
  exact ed_cb (ea_cons (EL.edd (ds := (L.map fun l => decide ((0 : Int) < (l.length : Int))).map PyData.bool) (EL.imp (el_mapx L eU (fun x y e => eU_inj e) (fun l => .bool (decide ((0 : Int) < (l.length : Int)))) (wd_tup h) (fun l hl => ⟨_, _, gd_name, by simp, ed_opb (f := fun i j => decide (j < i)) (ed_lenU (by rw [List.getElem?_set_self (by omega)])) ed_int⟩) (by omega)) fun es e => by rw [e, List.map_map]; rfl)) ea_nil) cd_all
theorem w_crosses (n1 : 1 ≤ n) (hn : n ≤ 12) (hX : LotIn n X) (h1 : RowV (X.map PyData.int) d1) (hY : LotIn n Y) (h2 : RowV (Y.map PyData.int) d2) (p : P (.bool (crB n X Y))) : W_crosses K a [.int (n : Int), d1, d2] P R := fun B E hE =>
  sd_retd (ed_four (L := cn n X Y) (vs := []) (ed_cX0 (ea_cons (ed_var rfl) (ea_cons (ed_var rfl) (ea_cons (ed_var rfl) ea_nil))) (w_corners n1 hn hX h1 hY h2 rfl)) (by show 4 ≤ 100; omega) (by show 3 < 4; omega)) p
theorem x_corners_first (n1 : 1 ≤ n) (hn : n ≤ 12) (h : W_good_lot K a [.int (n : Int), d1] (fun _ => False) R) : W_corners K a [.int (n : Int), d1, d2] P R := fun B E hE => by
  refine sd_cons (sd_drop (Pd := fun _ => True) (ed_cX0 (ea_cons (ed_var rfl) ea_nil) (w_good_size (by omega) (by omega) trivial)) ?_)
  exact sd_cons (sd_asgG (Pd := fun _ => False) (ed_cX (ds := [.int (n : Int), d1]) (ea_cons (ed_var rfl) (ea_cons (ed_var rfl) ea_nil)) h hE) fun _ h => h.elim)
theorem x_corners_second (n1 : 1 ≤ n) (hn : n ≤ 12) (hX : LotIn n X) (h1 : RowV (X.map PyData.int) d1) (h : W_good_lot K a [.int (n : Int), d2] (fun _ => False) R) : W_corners K a [.int (n : Int), d1, d2] P R := fun B E hE => by
  refine sd_cons (sd_drop (Pd := fun _ => True) (ed_cX0 (ea_cons (ed_var rfl) ea_nil) (w_good_size (by omega) (by omega) trivial)) ?_)
  refine sd_cons (sd_asgd (d := eU (srt X)) (ed_cX0 (ea_cons (ed_var rfl) (ea_cons (ed_var rfl) ea_nil)) (w_good_lot2 hX hn h1 rfl)) ?_)
  exact sd_cons (sd_asgG (Pd := fun _ => False) (ed_cX (ds := [.int (n : Int), d2]) (ea_cons (ed_var rfl) (ea_cons (ed_var rfl) ea_nil)) h hE) fun _ h => h.elim)
theorem x_crosses (h : W_corners K a [.int (n : Int), d1, d2] (fun _ => False) R) : W_crosses K a [.int (n : Int), d1, d2] P R := fun B E hE =>
  sd_ret (Pd := fun _ => False) (ed_cbF (ea_x (ed_lcF (wd_tupF (ed_cX (ds := [.int (n : Int), d1, d2]) (ea_cons (ed_var rfl) (ea_cons (ed_var rfl) (ea_cons (ed_var rfl) ea_nil))) h hE))))) fun _ h => h.elim
theorem w_law_corners_right (n1 : 1 ≤ n) (hn : n ≤ 12) (hX : LotIn n X) (hY : LotIn n Y) (p : P (.bool true)) : W_law_corners_right K a [.int (n : Int), eIs X, eIs Y] P := fun B => by
  have lX := lot_len hX
  have lY := lot_len hY
  refine sd_cons (sd_asgd (d := .tuple ((cn n X Y).map eU)) (ed_cXP (ea_consP (ed_var (d := .int (n : Int)) rfl) (ea_consP (ed_cDd (P := HandV X) rfl (ea_cons (ed_var rfl) ea_nil) (w_law_handed (by omega) (.inl rfl) fun e h => h)) (ea_cons (ed_var (d := eIs Y) rfl) ea_nil))) (by
    rintro _ ⟨_, _, rfl, ⟨e, _, ⟨k, kp, kr⟩, rfl, rfl⟩, rfl⟩
    exact ⟨rfl, w_corners n1 hn (lot_perm kp hX) kr hY (.inl rfl) (by rw [cn_ext hX (lot_perm kp hX) hY fun x => kp.mem_iff])⟩) EOk.no) ?_)
  refine sd_cons (sd_asgd (d := .tuple ([outX Y X, restL n (unL X Y), inX X Y, outX X Y].map eU)) (ed_cXP (ea_consP (ed_var (d := .int (n : Int)) rfl) (ea_consP (ed_cDd (P := HandV (restL n X)) rfl (ea_cons (ed_cN (P := (· = eIs (restL n X))) (ea_cons (ed_var rfl) (ea_cons (ed_var rfl) ea_nil)) (w_law_rest (by omega) rfl)) ea_nil) (w_law_handed (by have := lot_len (restL_ok (n := n) (l := X)); omega) (.inl rfl) fun e h => h)) (ea_cons (ed_var (d := eIs Y) rfl) ea_nil))) (by
    rintro _ ⟨_, _, rfl, ⟨e, _, ⟨k, kp, kr⟩, rfl, rfl⟩, rfl⟩
    exact ⟨rfl, w_corners n1 hn (lot_perm kp restL_ok) kr hY (.inl rfl) (by rw [cn_ext restL_ok (lot_perm kp restL_ok) hY fun x => kp.mem_iff, cn_rest hX hY])⟩) EOk.no) ?_)
  have ix : ∀ {δ : En} {j : Nat} {d : PyData}, δ[4]? = some (.sh (.tuple ((cn n X Y).map eU))) → ((cn n X Y).map eU)[j]? = some d → ED K B (tOp (rIxT K) (tVar 4) (tC (.int (j : Int)))) δ (· = d) := fun h hj => ed_ixt (ed_var h) ed_int hj
  have lots : ∀ l ∈ cn n X Y, l.Pairwise (· < ·) ∧ LotIn n l := fun l hl => by
    simp only [cn, List.mem_cons, List.not_mem_nil, or_false] at hl
    rcases hl with rfl | rfl | rfl | rfl
    · exact ⟨inX_asc hX, inX_ok hX⟩
    · exact ⟨outX_asc hX, outX_ok hX⟩
    · exact ⟨outX_asc hY, outX_ok hY⟩
    · exact ⟨rst_asc, restL_ok⟩
  refine sd_cons (sd_ifd (x := false) ((et_or (a := false) (b := false) ((et_not (et_B (ed_isi (d := .tuple ((cn n X Y).map eU)) (.inr (.inr (.inr (.inr rfl)))) rfl (ed_var rfl)))).is rfl) fun _ => (et_or (a := false) (b := false) ((et_test (ed_opd ((ed_lenS (ds := (cn n X Y).map eU) (ed_row rfl (.inr rfl))).is (e := .int 4) rfl) ed_int (rd_ne rfl))).is rfl) fun _ => (et_not (et_B (ed_cb (P := (· = .bool true)) (ea_cons (EL.edd (ds := [true, true, true, true].map PyData.bool) (EL.imp (el_mapx (cn n X Y) eU (fun x y e => eU_inj e) (fun _ => .bool true) (wd_tup (ed_var rfl)) (fun l hl => ⟨_, _, gd_name, by simp, ed_cN (ea_cons (ed_var rfl) (ea_cons (ed_var rfl) ea_nil)) (w_law_lot_ok (lots l hl).1 (lots l hl).2.2 (by have := lot_len (lots l hl).2; omega) rfl)⟩) (by show 4 ≤ 50000; omega)) fun es e => e)) ea_nil) (cd_all (bs := [true, true, true, true]))))).is rfl).is rfl).is rfl) (fun h => by cases h) (fun _ => sd_next ?_))
  refine sd_cons (sd_ifd (x := false) ((et_or (a := false) (b := false) (et_test (ed_opd (ed_var rfl) (ed_tup (ds := [outX Y X, restL n (unL X Y), inX X Y, outX X Y].map eU) (ea_cons (ix (j := 2) rfl rfl) (ea_cons (ix (j := 3) rfl rfl) (ea_cons (ix (j := 0) rfl rfl) (ea_cons (ix (j := 1) rfl rfl) ea_nil)))) (by show 4 ≤ 100000; omega)) (rd_neC (k := 2) (cmp_tup fun x hx => ?_) (by decide)))) fun _ => (et_test (ed_opd ((ed_cb (ea_cons (EL.edd (ds := ((cn n X Y).map fun l => (l.length : Int)).map PyData.int) (EL.imp (el_mapx (cn n X Y) eU (fun x y e => eU_inj e) (fun l => .int (l.length : Int)) (wd_tup (ed_var rfl)) (fun l hl => ⟨_, _, gd_name, by simp, ed_lenU rfl⟩) (by show 4 ≤ 50000; omega)) fun es e => by rw [e, List.map_map]; rfl)) ea_nil) cd_sum).is (congrArg PyData.int (cn_len hX hY))) (ed_var rfl) (rd_ne rfl))).is (by simp [eqS])).is rfl) (fun h => by cases h) (fun _ => sd_next ?_))
  · obtain ⟨l, _, rfl⟩ := List.mem_map.mp hx
    exact cmp_tints
  refine sd_cons (sd_asgd (d := .bool (crB n X Y)) (ed_cX0 (ea_cons (ed_var rfl) (ea_cons (ed_var rfl) (ea_cons (ed_var rfl) ea_nil))) (w_crosses n1 hn hX (.inl rfl) hY (.inl rfl) rfl)) ?_)
  refine sd_cons (sd_ifd (x := false) ((et_or (a := false) (b := false) ((et_not (et_B (ed_isi (d := .bool (crB n X Y)) (.inr (.inl rfl)) rfl (ed_var rfl)))).is rfl) fun _ => et_neB (ed_var rfl) (ed_four (L := cn n X Y) (vs := []) (ed_var rfl) (by show 4 ≤ 100; omega) (by show 7 < 8; omega)) rfl).is rfl) (fun h => by cases h) (fun _ => sd_next ?_))
  exact sd_retd (d := .bool true) ((ed_andV (a := true) (b := true) ((ed_opd (ed_cX0 (P := (· = .bool (crB n X Y))) (ea_cons (ed_var rfl) (ea_cons (ed_cN (P := (· = eIs (restL n X))) (ea_cons (ed_var rfl) (ea_cons (ed_var rfl) ea_nil)) (w_law_rest (by omega) rfl)) (ea_cons (ed_var rfl) ea_nil))) (w_crosses n1 hn restL_ok (.inl rfl) hY (.inl rfl) (by rw [crB_rest hX hY]))) (ed_var rfl) (rd_eq rfl)).is (by simp [eqS])) fun _ => (ed_opd (ed_cX0 (P := (· = .bool (crB n X Y))) (ea_cons (ed_var rfl) (ea_cons (ed_var rfl) (ea_cons (ed_var rfl) ea_nil))) (w_crosses n1 hn hY (.inl rfl) hX (.inl rfl) (by rw [crB_comm hX hY]))) (ed_var rfl) (rd_eq rfl)).is (by simp [eqS])).is rfl) p
end
end PL
namespace PL
variable [DL.Tb]
open PySem PySem.Spec PyProof.Rows L2 Evl DL FL
def realL : List Str := ["BadWorld", "BadLot", "NotInside", "TooMany", "NotTwoway"]
def stopL : List Str := ["BadLot", "NotInside", "TooMany"]
def lotCl : List Cl5 := [⟨"BadLot", "at", 5, false, [.f, .is "GatesError" true, .isT ["BadNet", "BadNumber", "BadPlace", "BadTie"] false]⟩]
def worldCl : List Cl5 := [⟨"BadWorld", "at", 5, false, [.f, .ity "ValueError" true, .isT ["BadLot", "BadNet"] false]⟩]
def apartCl : List Cl5 := [⟨"NotTwoway", "", 5, false, [.is "GatesError" true, .is "OtherKind" false]⟩, ⟨"BadLot", "at", 6, true, [.f]⟩, ⟨"BadWorld", "at", 7, true, [.tw "world"]⟩]
def listCl : List Cl5 := [⟨"BadLot", "at", 3, true, [.f]⟩, ⟨"NotInside", "place", 4, false, [.w "inside", .f]⟩, ⟨"TooMany", "size", 5, false, [.w "many", .f]⟩]
def wayCl : List Cl5 := [⟨"NotTwoway", "", 2, true, [.is "GatesError" true]⟩]
section
variable {K : PySem.W.Frag} {a : Ad} {B : Base} {δ : En} {te ta tb tc td tf : TE} {tt tu : TT} {tA : TA} {E : XK} {P : Pd} {Po' : Po} {R : XR} {Cc : Addr} {two : Bool} {n k : Nat} {ts ps : List (Int × Int)} {us vs ws rs l row S T S2 T2 xs ys is A C W X Y Z D I O U D1 D2 : List Int} {L : List (List Int)} {Pl : List PyData → Prop} {d dl dh dr dt dw x d0 d1 d2 d3 d4 d5 g gl v : PyData} {ds tl : List PyData} {i j c b m w : Int}
theorem sd_tryOk {t : WX → TS} {ks : List Cls1} (h : ∀ W', SD K B (t W') δ Po') : SD K B (fun D σ H => (fun W' : WX => t W') (wNm K (fun _ _ _ _ => False) D ks) D σ H) δ Po' := fun G H σ D Ev => h _ G H σ D Ev
theorem pas_asg {W : WTX} {W' : WX} {k j : Nat} {tA : TA} (h : EA K B tA δ (· = ds)) (w : W ds (· = d) noR) (kk : Po'.nx (δ.set j (.sh d))) (hl : ds.length = k := by rfl) : SD K B (tAsg (tCallS (SpWX K k W) (WE W') tA) (gName j)) δ Po' := fun G H σ D Ev nx _ _ _ =>
  h G H σ Ev _ fun vs es G1 H1 pd m r => by
    subst pd
    have I1 := Ev.iv.at m
    refine ⟨G1, es, (· = d), noR, I1.i0, r, hl, w, fun d' po v G2 H2 J rd => ?_, fun _ _ _ _ _ _ hr => hr.elim⟩
    subst po
    have mm := m.trans (I1.gmP J) Ev.iv
    exact nx _ G2 H2 _ kk mm.gg ((Ev.at mm).set j rd)
theorem w_law_lot_door (K0 : Nk K a) (T : ExT5 lotCl K a) (n1 : 1 ≤ n) (hn : n ≤ 12) (hz : ts.length ≤ 1000) (hw : WdOk ts us) (h : BadLt K a n g v) (pr : P (.list [v, .bool true, .bool false])) : W_law_lot_door K a [.int w, eNet (cC a two) (n : Int) ts, eIs us, g] P := fun B => by
  have o1 : LotIn (n : Int) [0] := ⟨by simp, fun x hx => by rw [List.mem_singleton.mp hx]; omega⟩
  refine sd_cons (sd_asgd (d := .none) ed_non ?_)
  refine sd_cons (sd_try5 (cl := lotCl) (j := 4) (x := ⟨"BadLot", "at", 5, false, [.f, .is "GatesError" true, .isT ["BadNet", "BadNumber", "BadPlace", "BadTie"] false]⟩) (d := v) (t := fun W => (tIfS (tTest (tOp rEq (tVar 0) (tC (.int 0)))) (tDrop (tCallS (SpWX K 2 (W_lot_of K a)) (WE W) (tCons (tFld K (tVar 1) "size") (tCons (tVar 3) tNil)))) (tIfS (tTest (tOp rEq (tVar 0) (tC (.int 1)))) (tDrop (tMethUXS (R_gates K a) "gates" (WE W) (tVar 1) (tCons (tVar 3) tNil))) (tIfS (tTest (tOp rEq (tVar 0) (tC (.int 2)))) (tDrop (tMethUXS (R_inner K a) "inner" (WE W) (tVar 1) (tCons (tVar 3) tNil))) (tIfS (tTest (tOp rEq (tVar 0) (tC (.int 3)))) (tDrop (tMethUXS (R_between K a) "between" (WE W) (tVar 1) (tCons (tVar 3) (tCons (tLst (tCons (tC (.int 0)) (tCons (tC (.int 0)) tNil))) tNil)))) (tIfS (tTest (tOp rEq (tVar 0) (tC (.int 4)))) (tDrop (tMethUXS (R_between K a) "between" (WE W) (tVar 1) (tCons (tLst tNil) (tCons (tVar 3) tNil)))) (tIfS (tTest (tOp rEq (tVar 0) (tC (.int 5)))) (tDrop (tCallS (SpWX K 3 (W_cost K a)) (WE W) (tCons (tVar 1) (tCons (tVar 2) (tCons (tVar 3) tNil))))) (tIfS (tTest (tOp rEq (tVar 0) (tC (.int 6)))) (tDrop (tCallS (SpWX K 3 (W_corners K a)) (WE W) (tCons (tFld K (tVar 1) "size") (tCons (tVar 3) (tCons (tLst (tCons (tC (.int 0)) (tCons (tC (.int 0)) tNil))) tNil))))) (tIfS (tTest (tOp rEq (tVar 0) (tC (.int 7)))) (tDrop (tCallS (SpWX K 3 (W_crosses K a)) (WE W) (tCons (tFld K (tVar 1) "size") (tCons (tLst (tCons (tC (.int 0)) tNil)) (tCons (tVar 3) tNil))))) (tIfS (tTest (tOp rEq (tVar 0) (tC (.int 8)))) (tDrop (tCallS (SpWX K 4 (W_spared K a)) (WE W) (tCons (tVar 1) (tCons (tVar 2) (tCons (tVar 3) (tCons (tLst (tCons (tC (.int 0)) (tCons (tC (.int 0)) tNil))) tNil)))))) (tDrop (tCallS (SpWX K 4 (W_spared K a)) (WE W) (tCons (tVar 1) (tCons (tVar 2) (tCons (tLst (tCons (tC (.int 0)) tNil)) (tCons (tVar 3) tNil)))))))))))))))) T (.head _) rfl (by decide) (by intro h; cases h) (fun h => by cases h) (by decide) ?_ (sd_retd (ed_var rfl) pr))
  have tst : ∀ {q : Int}, ET K B (tTest (tOp rEq (tVar 0) (tC (.int q)))) [.sh (.int w), .sh (eNet (cC a two) (n : Int) ts), .sh (eIs us), .sh g, .sh .none, .no] (· = decide (w = q)) := fun {q} => (et_test (ed_opd (ed_var rfl) ed_int (rd_eq rfl))).is rfl
  refine ref_if tst (fun _ => ref_drop (ds := [.int (n : Int), g]) (ea_cons (ed_size (K0.n two) rfl) (ea_cons (ed_var rfl) ea_nil)) fun R r => x_lot_of n1 hn (h.ref R r)) fun c0 => ref_if tst (fun _ => met_drop (r_gates K a two) nog_net (ed_var rfl) (ea_cons (ed_var rfl) ea_nil) fun R r => x_gates2 (K0.n two) (h.ref R r)) fun c1 => ref_if tst (fun _ => met_drop (r_inner K a two) noi_net (ed_var rfl) (ea_cons (ed_var rfl) ea_nil) fun R r => x_Net_inner (K0.n two) (h.ref R r)) fun c2 =>
    ref_if tst (fun _ => met_drop (r_between K a two) nobt_net (ed_var rfl) (ea_cons (ed_var rfl) (ea_cons (ed_l2 ed_int ed_int) ea_nil)) fun R r => x_bt_first (K0.n two) (h.ref R r)) fun c3 => ref_if tst (fun _ => met_drop (r_between K a two) nobt_net (ed_var rfl) (ea_cons ed_l0 (ea_cons (ed_var rfl) ea_nil)) fun R r => x_bt_second (X := []) (K0.n two) hn lot_nil (.inl rfl) (h.ref R r)) fun c4 =>
    ref_if tst (fun _ => ref_drop (ea_cons (ed_var rfl) (ea_cons (ed_var rfl) (ea_cons (ed_var rfl) ea_nil))) fun R r => x_cost_lot K0 hz hw (.inl rfl) (h.ref R r)) fun c5 => ref_if tst (fun _ => ref_drop (ea_cons (ed_size (K0.n two) rfl) (ea_cons (ed_var rfl) (ea_cons (ed_l2 ed_int ed_int) ea_nil))) fun R r => x_corners_first n1 hn (h.ref R r)) fun c6 =>
    ref_if tst (fun _ => ref_drop (ea_cons (ed_size (K0.n two) rfl) (ea_cons (ed_l1 ed_int) (ea_cons (ed_var rfl) ea_nil))) fun R r => x_crosses (x_corners_second (X := [0]) n1 hn o1 (.inl rfl) (h.ref R r))) fun c7 => ref_if tst (fun _ => ref_drop (ea_cons (ed_var rfl) (ea_cons (ed_var rfl) (ea_cons (ed_var rfl) (ea_cons (ed_l2 ed_int ed_int) ea_nil)))) fun R r => x_sp_first K0 hz hw (.inl rfl) (h.ref R r)) fun c8 =>
    ref_drop (ea_cons (ed_var rfl) (ea_cons (ed_var rfl) (ea_cons (ed_l1 ed_int) (ea_cons (ed_var rfl) ea_nil)))) fun R r => x_sp_second (X := [0]) K0 hn hz hw (.inl rfl) o1 (.inl rfl) (h.ref R r)
theorem w_law_world_told (K0 : Nk K a) (T : ExT5 worldCl K a) (h : BadWd K a (ts.length : Int) g v) (pr : P (.list [v, .bool true, .bool false])) : W_law_world_told K a [.int w, eNet (cC a two) (n : Int) ts, g, gl] P := fun B => by
  refine sd_cons (sd_asgd (d := .none) ed_non ?_)
  refine sd_cons (sd_try5 (cl := worldCl) (j := 4) (x := ⟨"BadWorld", "at", 5, false, [.f, .ity "ValueError" true, .isT ["BadLot", "BadNet"] false]⟩) (d := v) (t := fun W => (tIfS (tTest (tOp rEq (tVar 0) (tC (.int 0)))) (tDrop (tCallS (SpWX K 4 (W_spared K a)) (WE W) (tCons (tVar 1) (tCons (tVar 2) (tCons (tVar 3) (tCons (tVar 3) tNil)))))) (tIfS (tTest (tOp rEq (tVar 0) (tC (.int 1)))) (tDrop (tCallS (SpWX K 3 (W_cost K a)) (WE W) (tCons (tVar 1) (tCons (tVar 2) (tCons (tVar 3) tNil))))) (tDrop (tCallS (SpWX K 2 (W_world_of K a)) (WE W) (tCons (tVar 1) (tCons (tVar 2) tNil))))))) T (.head _) rfl (by decide) (by intro h; cases h) (fun h => by cases h) (by decide) ?_ (sd_retd (ed_var rfl) pr))
  have tst : ∀ {q : Int}, ET K B (tTest (tOp rEq (tVar 0) (tC (.int q)))) [.sh (.int w), .sh (eNet (cC a two) (n : Int) ts), .sh g, .sh gl, .sh .none, .no] (· = decide (w = q)) := fun {q} => (et_test (ed_opd (ed_var rfl) ed_int (rd_eq rfl))).is rfl
  exact ref_if tst (fun _ => ref_drop (ea_cons (ed_var rfl) (ea_cons (ed_var rfl) (ea_cons (ed_var rfl) (ea_cons (ed_var rfl) ea_nil)))) fun R r => x_sp_world K0 (h.ref R r)) fun c0 => ref_if tst (fun _ => ref_drop (ea_cons (ed_var rfl) (ea_cons (ed_var rfl) (ea_cons (ed_var rfl) ea_nil))) fun R r => x_cost_world K0 (h.ref R r)) fun c1 => ref_drop (ea_cons (ed_var rfl) (ea_cons (ed_var rfl) ea_nil)) fun R r => x_world_of K0 (h.ref R r)
theorem w_law_apart_told {x : Cl5} {d : PyData} (T : ExT5 apartCl K a) (hx : x ∈ apartCl) (bx : x.bare = true) (h : ∀ R : XR, R (a.ec x.cls) [(x.fld, v)] → W_spared_apart K a [d, d1, d2, d3] (fun _ => False) R) (pr : P (told5 x v)) : W_law_apart_told K a [d, d1, d2, d3] P := fun B => by
  have hx2 := hx
  simp only [apartCl, List.mem_cons, List.not_mem_nil, or_false] at hx2
  refine sd_cons (sd_asgd (d := .none) ed_non ?_)
  refine sd_cons (sd_try5 (cl := apartCl) (j := 4) (x := x) (d := v) (t := fun W => (tDrop (tCallS (SpWX K 4 (W_spared_apart K a)) (WE W) (tCons (tVar 0) (tCons (tVar 1) (tCons (tVar 2) (tCons (tVar 3) tNil))))))) T hx ?_ ?_ (by intro h; cases h) ?_ ?_ (ref_drop (ea_cons (ed_var rfl) (ea_cons (ed_var rfl) (ea_cons (ed_var rfl) (ea_cons (ed_var rfl) ea_nil)))) h) (sd_retd (ed_var rfl) pr))
  · rcases hx2 with rfl | rfl | rfl <;> rfl
  · rcases hx2 with rfl | rfl | rfl <;> decide
  · rcases hx2 with rfl | rfl | rfl
    · cases bx
    · exact fun _ => ⟨_, rfl⟩
    · exact fun _ => ⟨_, rfl⟩
  · rcases hx2 with rfl | rfl | rfl <;> decide
theorem w_law_apart_way {d : PyData} (T : ExT5 apartCl K a) (h : ∀ R : XR, R (a.ec "NotTwoway") [] → W_spared_apart K a [d, d1, d2, d3] (fun _ => False) R) (pr : P (.list [.bool true, .bool false])) : W_law_apart_told K a [d, d1, d2, d3] P := fun B => by
  refine sd_cons (sd_asgd (d := .none) ed_non ?_)
  exact sd_cons (sd_try5N (cl := apartCl) (j := 4) (x := ⟨"NotTwoway", "", 5, false, [.is "GatesError" true, .is "OtherKind" false]⟩) (t := fun W => (tDrop (tCallS (SpWX K 4 (W_spared_apart K a)) (WE W) (tCons (tVar 0) (tCons (tVar 1) (tCons (tVar 2) (tCons (tVar 3) tNil))))))) T (.head _) rfl (by decide) (by intro h; cases h) (fun h => by cases h) (by decide) (by decide) (ref_drop (ea_cons (ed_var rfl) (ea_cons (ed_var rfl) (ea_cons (ed_var rfl) (ea_cons (ed_var rfl) ea_nil)))) h) (sd_retd (ed_var rfl) pr))
theorem w_law_twoway_no (K0 : Nk K a) (T : ExT5 wayCl K a) (er : a.er "NotTwoway" = true) (pr : P (.bool true)) : W_law_twoway_told K a [eNet (cC a false) (n : Int) ts] P := fun B => by
  refine sd_cons (sd_asgd (d := .none) ed_non ?_)
  exact sd_cons (sd_try5N (cl := wayCl) (j := 1) (x := ⟨"NotTwoway", "", 2, true, [.is "GatesError" true]⟩) (t := fun W => (tAsg (tCallS (SpWX K 1 (W_check_twoway K a)) (WE W) (tCons (tVar 0) tNil)) (gName 1))) T (.head _) rfl (by decide) (by intro h; cases h) (fun _ => ⟨_, rfl⟩) (by decide) (by decide) (ref_asg (ea_cons (ed_var rfl) ea_nil) fun R r => x_check_twoway K0 er r) (sd_retd (ed_var rfl) pr))
theorem w_law_twoway_ok (K0 : Nk K a) (pr : P .none) : W_law_twoway_told K a [eNet (cC a true) (n : Int) ts] P := fun B => by
  refine sd_cons (sd_asgd (d := .none) ed_non ?_)
  exact sd_cons (sd_tryOk (t := fun W => (tAsg (tCallS (SpWX K 1 (W_check_twoway K a)) (WE W) (tCons (tVar 0) tNil)) (gName 1))) fun W' => pas_asg (d := .none) (ea_cons (ed_var rfl) ea_nil) (w_check_twoway K0 rfl) (sd_retd (ed_var rfl) pr))
theorem w_law_listed_told {x : Cl5} (T : ExT5 listCl K a) (NS : ∀ x ∈ stopL, PySem.W.subIn K (.ref (a.ec x)) (.type "StopIteration") = some false) (hx : x ∈ listCl) (h : ∀ R : XR, R (a.ec x.cls) [(x.fld, v)] → W_lots_between K a [d1, d2] (fun _ => False) R) (pr : P (told5 x v)) : W_law_listed_told K a [d1, d2] P := fun B => by
  have hx2 := hx
  simp only [listCl, List.mem_cons, List.not_mem_nil, or_false] at hx2
  have hs : PySem.W.subIn K (.ref (a.ec x.cls)) (.type "StopIteration") = some false := NS _ (by rcases hx2 with rfl | rfl | rfl <;> decide)
  refine sd_cons (sd_asgd (d := .none) ed_non ?_)
  refine sd_cons (sd_try5 (cl := listCl) (j := 2) (x := x) (d := v) (t := fun W => (tDrop (tLG K (SpGL K 2 (W_lots_between K a)) W (tCons (tVar 0) (tCons (tVar 1) tNil))))) T hx ?_ ?_ (by intro h; cases h) ?_ ?_ (fun G H σ D W' Ev hit => ref_lsG (kk := fun σ v H => D.nx σ H) (ea_cons (ed_var rfl) (ea_cons (ed_var rfl) ea_nil)) h hs rfl G H σ W' Ev hit) (sd_retd (ed_var rfl) pr))
  · rcases hx2 with rfl | rfl | rfl <;> rfl
  · rcases hx2 with rfl | rfl | rfl <;> decide
  · rcases hx2 with rfl | rfl | rfl
    · exact fun _ => ⟨_, rfl⟩
    · exact fun h => by cases h
    · exact fun h => by cases h
  · rcases hx2 with rfl | rfl | rfl <;> decide
theorem su_snoc {f : Nat → Int} {L : List Nat} {x : Nat} : su (L ++ [x]) f = su L f + f x := by rw [su_perm (List.perm_append_singleton x L), su_cons]; omega
theorem w_law_amount_between (hz : ts.length ≤ 1000) (ul : us.length = ts.length) (pr : P (.int (amt ts us A C))) : W_law_amount_between K a [eTs ts, eIs us, eIs A, eIs C] P := fun B => by
  have len : ∀ {δ : En}, δ[0]? = some (.sh (eTs ts)) → ED K B (tCB (rLenQ K) (tCons (tVar 0) tNil)) δ (· = .int (ts.length : Int)) := fun h => (ed_lenL (ed_var h)).is (by rw [List.length_map])
  refine sd_cons (sd_asgd (d := .int 0) ed_int ?_)
  refine sd_mid (fun δ' => ∃ s5 s6 s7 : Sl, δ' = [.sh (eTs ts), .sh (eIs us), .sh (eIs A), .sh (eIs C), .sh (.int (amt ts us A C)), s5, s6, s7]) (sd_rng1 (n := (ts.length : Int)) (fun k δ' => ∃ s5 s6 s7 : Sl, δ' = [.sh (eTs ts), .sh (eIs us), .sh (eIs A), .sh (eIs C), .sh (.int (su (List.range k) fun t => if btB A C (ts.getD t (0, 0)) = true then us.getD t 0 else 0)), s5, s6, s7]) (ea_cons (len rfl) ea_nil) (by omega) ⟨_, _, _, rfl⟩ ?_ ?_) ?_
  · rintro k _ hk ⟨s5, s6, s7, rfl⟩
    have hk : k < ts.length := by omega
    have t0 : ∀ {δ : En}, δ[0]? = some (.sh (eTs ts)) → δ[5]? = some (.sh (.int (k : Int))) → ED K B (tOp (rIxL K) (tVar 0) (tVar 5)) δ (· = eP (ts.getD k (0, 0))) := fun h h4 => ed_tie hk (ed_var h) (ed_var h4)
    refine sd_cons (sd_asgd (d := .int (ts.getD k (0, 0)).1) (ed_fst (t0 rfl rfl)) ?_)
    refine sd_cons (sd_asgd (d := .int (ts.getD k (0, 0)).2) (ed_snd (t0 rfl rfl)) ?_)
    rw [List.range_succ, su_snoc]
    have uk : k < us.length := by omega
    refine sd_ifd (x := btB A C (ts.getD k (0, 0))) (et_or (et_and (et_test (ed_opd (ed_var rfl) (ed_var rfl) (rd_inL (neg := false)))) fun _ => et_test (ed_opd (ed_var rfl) (ed_var rfl) (rd_inL (neg := false)))) fun _ => et_and (et_test (ed_opd (ed_var rfl) (ed_var rfl) (rd_inL (neg := false)))) fun _ => et_test (ed_opd (ed_var rfl) (ed_var rfl) (rd_inL (neg := false)))) (fun c => ?_) (fun c => sd_next ?_)
    · rw [c, if_pos rfl]
      exact sd_asgd (ed_opi (f := fun i j => i + j) (ed_var rfl) (ed_atL (s := us) (j := k) (ed_var rfl) (ed_var rfl) uk)) ⟨_, _, _, rfl⟩
    · rw [c, if_neg (by decide), Int.add_zero]
      exact ⟨_, _, _, rfl⟩
  · rintro _ ⟨s5, s6, s7, rfl⟩
    rw [amt_su]
    exact ⟨_, _, _, rfl⟩
  rintro _ ⟨s5, s6, s7, rfl⟩
  exact sd_retd (ed_var rfl) pr
end
end PL
namespace PL
variable [DL.Tb]
open PySem PySem.Spec PyProof.Rows L2 Evl DL FL
section
variable {K : PySem.W.Frag} {a : Ad} {B : Base} {δ : En} {te ta tb tc td tf : TE} {tt tu : TT} {tA : TA} {E : XK} {P : Pd} {Po' : Po} {R : XR} {Cc : Addr} {two : Bool} {n k : Nat} {ts ps : List (Int × Int)} {us vs ws rs l row S T S2 T2 xs ys is A C W X Y Z D I O U D1 D2 : List Int} {L : List (List Int)} {Pl : List PyData → Prop} {d dl dh dr dt dw x d0 d1 d2 d3 d4 d5 g gl v : PyData} {ds tl : List PyData} {i j c b m w : Int}
theorem w_law_any_net (pr : ∀ (n : Int) (ts : List (Int × Int)), 1 ≤ n → n ≤ 12 → InR n ts → ts.length ≤ 12 → P (eN n ts)) : W_law_any_net K a [] P := fun B => by
  refine sd_cons (sd_asg (Pd := fun d => ∃ (n : Int) (ts : List (Int × Int)), d = eN n ts ∧ 1 ≤ n ∧ n ≤ 6 ∧ InR n ts ∧ ts.length ≤ 12) (ed_cDd rfl (ea_cons ed_int ea_nil) (w_net (by decide) (by decide) fun n ts h1 h2 h3 h4 => ⟨n, ts, rfl, h1, h2, h3, by omega⟩)) ?_)
  rintro _ ⟨n, ts, rfl, n1, n6, hr, hz⟩
  refine sd_cons (sd_ifP (et_eqP (ed_take rfl ed_int (by decide)) (toI ed_int)) (fun _ => ?_) fun _ => sd_next (sd_retd (ed_var rfl) (pr n ts n1 (by omega) hr hz)))
  refine sd_cons (sd_asg (Pd := isI fun r => 9 ≤ r ∧ r < 13) ((ed_opiP (p := fun r => r = 9) (q := fun r => 0 ≤ r ∧ r < 4) (f := fun i j => i + j) (toI ed_int) (ed_take rfl ed_int (by decide))).imp fun d h => by obtain ⟨r, ⟨i, j, h1, h2, h3⟩, e⟩ := h; exact ⟨r, by omega, e⟩) ?_)
  rintro _ ⟨m, ⟨m0, m1⟩, rfl⟩
  refine sd_ret (l2_of (ed_var rfl) (EL.ed (el_free (M := 9) rfl (ed_var rfl) (by omega) (ed_take rfl ed_int (by decide)) (by decide)))) ?_
  rintro _ ⟨_, _, rfl, ⟨_, ⟨us, ⟨h1, h2⟩, rfl⟩, rfl⟩, rfl⟩
  exact pr m us (by omega) (by omega) h1 (by omega)
def whL (n : Nat) (X Y : List Int) : List Int := ((List.range n).filter fun i : Nat => decide ((i : Int) ∈ X) || decide ((i : Int) ∈ Y)).map fun i : Nat => (i : Int)
theorem mem_whL (hX : LotIn n X) (hY : LotIn n Y) {x : Int} : x ∈ whL n X Y ↔ x ∈ X ∨ x ∈ Y := by
  unfold whL
  rw [List.mem_map]
  constructor
  · rintro ⟨k, hk, rfl⟩
    have := (List.mem_filter.mp hk).2
    simpa using this
  · intro h
    have q : 0 ≤ x ∧ x < (n : Int) := h.elim (hX.2 x) (hY.2 x)
    refine ⟨x.toNat, List.mem_filter.mpr ⟨List.mem_range.mpr (by omega), ?_⟩, by omega⟩
    rw [Int.toNat_of_nonneg q.1]
    simpa using h
theorem whL_ok : LotIn n (whL n X Y) := by
  refine ⟨?_, fun x hx => ?_⟩
  · exact asc_nd (List.pairwise_map.mpr ((List.pairwise_lt_range.filter _).imp fun h => by omega))
  · obtain ⟨k, hk, rfl⟩ := List.mem_map.mp hx
    have := List.mem_range.mp (List.mem_filter.mp hk).1
    omega
def noL (n : Nat) (X Y : List Int) : List Int := ((List.range n).filter fun i : Nat => !decide ((i : Int) ∈ X) && !decide ((i : Int) ∈ Y)).map fun i : Nat => (i : Int)
theorem mem_noL {x : Int} (h0 : 0 ≤ x) (h1 : x < (n : Int)) : x ∈ noL n X Y ↔ x ∉ X ∧ x ∉ Y := by
  unfold noL
  rw [List.mem_map]
  constructor
  · rintro ⟨k, hk, rfl⟩
    have := (List.mem_filter.mp hk).2
    simpa using this
  · intro h
    refine ⟨x.toNat, List.mem_filter.mpr ⟨List.mem_range.mpr (by omega), ?_⟩, by omega⟩
    rw [Int.toNat_of_nonneg h0]
    simpa using h
theorem mem_pL {x : Int} : x ∈ partL X Y ↔ x ∈ X ∧ x ∈ Y := by unfold partL; rw [List.mem_filter, decide_eq_true_iff]
theorem pL_ok (hX : LotIn n X) : LotIn n (partL X Y) := ⟨hX.1.filter _, fun x hx => hX.2 x (mem_pL.mp hx).1⟩
theorem el_inB {δ : En} {i j q : Nat} {neg : Bool} (hi : δ[i]? = some (.sh (eIs X))) (hj : δ[j]? = some (.sh (eIs Y))) (iq : i ≠ q) (jq : j ≠ q) (hq : q < δ.length) (hz : X.length ≤ 50000) :
    ED K B (tLc (iList K (tVar i)) (gName q) (tTest (tOp (rIn K neg) (tVar q) (tVar j))) (tVar q) [q]) δ (· = eIs (X.filter fun x => decide (x ∈ Y) != neg)) := by
  have e : (wipeD δ [q]).length = δ.length := by simp [wipeD]
  have hj2 : (wipeD δ [q])[j]? = some (.sh (eIs Y)) := by
    show (δ.set q .no)[j]? = _
    rw [List.getElem?_set_ne (fun z => jq z.symm)]
    exact hj
  refine EL.edd (EL.imp (el_lcx X PyData.int int_inj (fun x => decide (x ∈ Y) != neg) PyData.int (wd_list (ed_var hi)) (fun x hx => ⟨_, _, gd_name, by simp, ?_, fun _ => ed_var (by rw [List.getElem?_set_self (by omega)])⟩) hz) fun es e => e)
  exact (et_test (ed_opd (ed_var (d := .int x) (by rw [List.getElem?_set_self (by omega)])) (ed_var (d := eIs Y) (by rw [List.getElem?_set_ne (fun z => jq z.symm)]; exact hj2)) (rd_inL (neg := neg)))).is (by cases neg <;> cases decide (x ∈ Y) <;> rfl)
theorem f_in : (X.filter fun x => decide (x ∈ Y) != false) = partL X Y := List.filter_congr fun x _ => by simp
theorem f_out : (X.filter fun x => decide (x ∈ Y) != true) = minL X Y := List.filter_congr fun x _ => by simp
theorem el_part {δ : En} {i j q : Nat} (hi : δ[i]? = some (.sh (eIs X))) (hj : δ[j]? = some (.sh (eIs Y))) (iq : i ≠ q) (jq : j ≠ q) (hq : q < δ.length) (hz : X.length ≤ 50000) : ED K B (tLc (iList K (tVar i)) (gName q) (tTest (tOp (rIn K false) (tVar q) (tVar j))) (tVar q) [q]) δ (· = eIs (partL X Y)) := f_in ▸ el_inB hi hj iq jq hq hz
theorem el_min {δ : En} {i j q : Nat} (hi : δ[i]? = some (.sh (eIs X))) (hj : δ[j]? = some (.sh (eIs Y))) (iq : i ≠ q) (jq : j ≠ q) (hq : q < δ.length) (hz : X.length ≤ 50000) : ED K B (tLc (iList K (tVar i)) (gName q) (tTest (tOp (rIn K true) (tVar q) (tVar j))) (tVar q) [q]) δ (· = eIs (minL X Y)) := f_out ▸ el_inB hi hj iq jq hq hz
theorem ed_costH {δ : En} {q : Nat} (K0 : Nk K a) (hz : ts.length ≤ 1000) (hw : WdOk ts us) (hX : LotIn n X) (hn : n ≤ 12) (h0 : δ[0]? = some .dr) (h1 : δ[1]? = some (.sh (eNet (cC a two) (n : Int) ts))) {p : Nat} (h2 : δ[p]? = some (.sh (eIs us))) (h3 : δ[q]? = some (.sh (eIs X))) : ED K B (tCall (SpWX K 3 (W_cost K a)) [] E0 (tCons (tVar 1) (tCons (tVar p) (tCons (tCall (SpWD K 1 (W_law_handed K a)) [] E0 (tCons (tVar 0) (tCons (tVar q) tNil))) tNil)))) δ (· = .int (costL two ts us X)) :=
  ed_cXP (ea_consP (ed_var h1) (ea_consP (ed_var h2) (ea_consP (ed_cDd (P := HandV X) h0 (ea_cons (ed_var h3) ea_nil) (w_law_handed (by have := lot_len hX; omega) (.inl rfl) fun e h => h)) ea_nil))) (by
    rintro _ ⟨_, _, rfl, ⟨_, _, rfl, ⟨e, _, ⟨k, kp, kr⟩, rfl, rfl⟩, rfl⟩, rfl⟩
    exact ⟨rfl, w_cost K0 hw hz (.inl rfl) (lot_perm kp hX) (by have := lot_len (lot_perm kp hX); omega) kr (by rw [costL_mem fun x => kp.mem_iff])⟩) EOk.no
theorem ed_costX {δ : En} {te : TE} (K0 : Nk K a) (hz : ts.length ≤ 1000) (hw : WdOk ts us) (hX : LotIn n X) (hn : n ≤ 12) {p r : Nat} (h1 : δ[r]? = some (.sh (eNet (cC a two) (n : Int) ts))) (h2 : δ[p]? = some (.sh (eIs us))) (h3 : ED K B te δ (· = eIs X)) : ED K B (tCall (SpWX K 3 (W_cost K a)) [] E0 (tCons (tVar r) (tCons (tVar p) (tCons te tNil)))) δ (· = .int (costL two ts us X)) :=
  ed_cX0 (ea_cons (ed_var h1) (ea_cons (ed_var h2) (ea_cons h3 ea_nil))) (w_cost K0 hw hz (.inl rfl) hX (by have := lot_len hX; omega) (.inl rfl) rfl)
theorem w_law_four (K0 : Nk K a) (hn : n ≤ 12) (hz : ts.length ≤ 1000) (hw : WdOk ts us) (hX : LotIn n X) (hY : LotIn n Y) (pr : P (.int ((if two = true then 2 else 1) * amt ts us (minL X Y) (minL Y X)))) : W_law_four K a [eNet (cC a two) (n : Int) ts, eIs us, eIs X, eIs Y] P := fun B => by
  have lX := lot_len hX
  refine sd_cons (sd_asgd (d := eIs (partL X Y)) (el_part (X := X) (Y := Y) rfl rfl (by decide) (by decide) (by show 8 < 9; omega) (by omega)) ?_)
  refine sd_cons (sd_asgd (d := eIs (whL n X Y)) (EL.edd (EL.imp (el_lcr (lo := 0) (n := n) (fun i => decide ((i : Int) ∈ X) || decide ((i : Int) ∈ Y)) (fun i => .int (i : Int)) (wd_rng1 (n := (n : Int)) (ea_cons (ed_size (K0.n two) rfl) ea_nil) (by omega) (by omega)) (fun i hi => ⟨_, _, gd_name, by simp, et_or (et_test (ed_opd ((ed_var rfl).is (congrArg PyData.int (z0 i))) (ed_var rfl) (rd_inL (neg := false)))) fun _ => et_test (ed_opd ((ed_var rfl).is (congrArg PyData.int (z0 i))) (ed_var rfl) (rd_inL (neg := false))), fun _ => (ed_var rfl).is (congrArg PyData.int (z0 i))⟩) (by omega)) fun es h => by rw [h]; unfold whL; rw [List.map_map]; rfl)) ?_)
  refine sd_cons (sd_asgd (d := .int (costL two ts us X + costL two ts us Y)) (ed_opi (f := fun i j => i + j) (ed_costH K0 hz hw hX hn rfl rfl rfl rfl) (ed_costH K0 hz hw hY hn rfl rfl rfl rfl)) ?_)
  refine sd_retd ((ed_opi (f := fun i j => i - j) (ed_opi (f := fun i j => i - j) (ed_var rfl) (ed_costX K0 hz hw (pL_ok (Y := Y) hX) hn rfl rfl (ed_var rfl))) (ed_costX K0 hz hw (whL_ok (n := n) (X := X) (Y := Y)) hn rfl rfl (ed_var rfl))).is (congrArg PyData.int ?_)) pr
  have q := cost_four (two := two) (ts := ts) (us := us) (I := partL X Y) (U := whL n X Y) (D1 := minL X Y) (D2 := minL Y X) (fun x => mem_pL) (fun x => mem_whL hX hY) (fun x => mem_minL) fun x => mem_minL
  rw [← q]
  omega
theorem ed_gates {δ : En} {i : Nat} (K0 : Nk K a) (hl : LotIn n l) (hn : n ≤ 12) (hz : ts.length ≤ 1000) (h : δ[i]? = some (.sh (eNet (cC a two) (n : Int) ts))) (h2 : ED K B te δ (· = eIs l)) : ED K B (tMethUX (R_gates K a) "gates" E0 (tVar i) (tCons te tNil)) δ (· = eU (ixL (gB two l) ts)) :=
  ed_mX (r_gates K a two) nog_net (ed_var h) (ea_cons h2 ea_nil) (w_gates2 (K0.n two) hl (by have := lot_len hl; omega) hz (.inl rfl) rfl) EOk.no
theorem gates_rest (hin : InR n ts) : ixL (gB true (restL n X)) ts = ixL (gB true X) ts := by
  unfold ixL
  congr 1
  refine List.filter_congr fun t ht => ?_
  obtain ⟨a0, a1, b0, b1⟩ := inR_at hin (List.mem_range.mp ht)
  have e : ∀ x : Int, 0 ≤ x → x < (n : Int) → decide (x ∈ restL n X) = !decide (x ∈ X) := fun x h h' => by rw [Bool.eq_iff_iff]; simp [mem_restL, h, h']
  unfold gB
  rw [if_pos rfl, if_pos rfl, e _ a0 a1, e _ b0 b1]
  cases decide ((ts.getD t (0, 0)).1 ∈ X) <;> cases decide ((ts.getD t (0, 0)).2 ∈ X) <;> rfl
theorem w_law_apart_right (K0 : Nk K a) (T3 : ExT5 apartCl K a) (T5 : ExT5 wayCl K a) (er : ∀ x ∈ realL, a.er x = true) (hn : n ≤ 12) (hin : InR n ts) (hz : ts.length ≤ 1000) (hw : WdOk ts us) (hX : LotIn n X) (hY : LotIn n Y) (pr : P (.bool true)) : W_law_apart_right K a [eNet (cC a two) (n : Int) ts, .str (kn two), eTs ts, eIs us, eIs X, eIs Y] P := fun B => by
  have lX := lot_len hX
  have lY := lot_len hY
  have e5 : a.er "NotTwoway" = true := er _ (by decide)
  refine sd_cons (sd_asgd (d := .int (n : Int)) (ed_size (K0.n two) rfl) ?_)
  cases two with
  | false =>
    refine sd_cons (sd_ifd (x := true) ((et_test (ed_opd (ed_var rfl) ed_str (rd_eq rfl))).is (by show decide (("oneway" : Str) = "oneway") = true; exact decide_eq_true rfl)) (fun _ => ?_) (fun h => by cases h))
    exact sd_retd (d := .bool true) ((ed_andV (a := true) (b := true) (ed_opd (a := .list [.bool true, .bool false]) (ed_cN (ea_cons (ed_var rfl) (ea_cons ed_non (ea_cons ed_non (ea_cons ed_non ea_nil)))) (w_law_apart_way T3 (fun R r => x_sa_way K0 e5 r) rfl)) (ed_l2 ed_bl ed_bl) (rd_eqC (k := 1) (cmp_list fun x hx => by
      simp only [List.mem_cons, List.not_mem_nil, or_false] at hx
      rcases hx with rfl | rfl <;> exact cmp_bl) (by decide))) fun _ => (ed_opd (ed_cN (P := (· = .bool true)) (ea_cons (ed_var rfl) ea_nil) (w_law_twoway_no K0 T5 e5 rfl)) ed_bl rd_isBl).is rfl).is rfl) pr
  | true =>
  refine sd_cons (sd_ifd (x := false) ((et_test (ed_opd (ed_var rfl) ed_str (rd_eq rfl))).is (by show decide (("twoway" : Str) = "oneway") = false; exact decide_eq_false (by decide +kernel))) (fun h => by cases h) (fun _ => sd_next ?_))
  refine sd_cons (sd_ifd (x := false) ((et_test (ed_opd (ed_cN (P := (· = .none)) (ea_cons (ed_var rfl) ea_nil) (w_law_twoway_ok K0 rfl)) ed_non rd_notN)).is rfl) (fun h => by cases h) (fun _ => sd_next ?_))
  refine sd_cons (sd_asgd (d := eIs (partL X Y)) (el_part (X := X) (Y := Y) rfl rfl (by decide) (by decide) (by show 14 < 15; omega) (by omega)) ?_)
  refine sd_cons (sd_asgd (d := eIs (noL n X Y)) (EL.edd (EL.imp (el_lcr (lo := 0) (n := n) (fun i => !decide ((i : Int) ∈ X) && !decide ((i : Int) ∈ Y)) (fun i => .int (i : Int)) (wd_rng1 (n := (n : Int)) (ea_cons (ed_var rfl) ea_nil) (by omega) (by omega)) (fun i hi => ⟨_, _, gd_name, by simp, (et_and (et_test (ed_opd ((ed_var rfl).is (congrArg PyData.int (z0 i))) (ed_var rfl) (rd_inL (neg := true)))) fun _ => et_test (ed_opd ((ed_var rfl).is (congrArg PyData.int (z0 i))) (ed_var rfl) (rd_inL (neg := true)))).is (by simp), fun _ => (ed_var rfl).is (congrArg PyData.int (z0 i))⟩) (by omega)) fun es h => by rw [h]; unfold noL; rw [List.map_map]; rfl)) ?_)
  refine sd_cons (sd_asgd (d := .int (2 * amt ts us (partL X Y) (noL n X Y))) (ed_opc (C := CMul) (f := fun i j => i * j) ed_int (ed_cN (ea_cons (ed_var rfl) (ea_cons (ed_var rfl) (ea_cons (ed_var rfl) (ea_cons (ed_var rfl) ea_nil)))) (w_law_amount_between hz hw.len rfl)) (.inl ⟨by decide, by decide⟩)) ?_)
  refine sd_cons (sd_asgd (d := .int (2 * amt ts us (partL X Y) (noL n X Y))) (ed_cXP (ea_consP (ed_var (d := eNet (cC a true) (n : Int) ts) rfl) (ea_consP (ed_copy (l := us) rfl) (ea_consP (ed_cDd (P := HandV X) rfl (ea_cons (ed_var rfl) ea_nil) (w_law_handed (by omega) (.inl rfl) fun e h => h)) (ea_consP (ed_cDd (P := HandV Y) rfl (ea_cons (ed_var rfl) ea_nil) (w_law_handed (by omega) (.inl rfl) fun e h => h)) ea_nil)))) (by
    rintro _ ⟨_, _, rfl, ⟨_, _, rfl, ⟨e1, _, ⟨k1, kp1, kr1⟩, ⟨e2, _, ⟨k2, kp2, kr2⟩, rfl, rfl⟩, rfl⟩, rfl⟩, rfl⟩
    exact ⟨rfl, w_spared_apart K0 hn hin hz hw (.inl rfl) (lot_perm kp1 hX) kr1 (lot_perm kp2 hY) kr2 (I := partL X Y) (O := noL n X Y) (fun x => by rw [mem_pL, kp1.mem_iff, kp2.mem_iff]) (fun x h h' => by rw [mem_noL h h', kp1.mem_iff, kp2.mem_iff]) rfl⟩) EOk.no) ?_)
  have e3 : (if true = true then (2 : Int) else 1) * amt ts us (minL X (restL n Y)) (minL (restL n Y) X) = 2 * amt ts us (partL X Y) (noL n X Y) := by
    rw [if_pos rfl]
    have q1 : ∀ x, x ∈ minL X (restL n Y) ↔ x ∈ partL X Y := fun x => by
      rw [mem_minL, mem_pL, mem_restL]
      exact ⟨fun h => ⟨h.1, Classical.byContradiction fun z => h.2 ⟨hX.2 x h.1, z⟩⟩, fun h => ⟨h.1, fun z => z.2 h.2⟩⟩
    have q2 : ∀ x, x ∈ minL (restL n Y) X ↔ x ∈ noL n X Y := fun x => by
      rw [mem_minL, mem_restL]
      constructor
      · intro h
        exact (mem_noL h.1.1.1 h.1.1.2).mpr ⟨h.2, h.1.2⟩
      · intro h
        obtain ⟨k, hk, rfl⟩ := List.mem_map.mp h
        have r := List.mem_range.mp (List.mem_filter.mp hk).1
        have z := (mem_noL (by omega) (by omega)).mp h
        exact ⟨⟨⟨by omega, by omega⟩, z.2⟩, z.1⟩
    rw [amt_mem q1 q2]
  refine sd_cons (sd_ifd (x := false) ((et_or (a := false) (b := false) ((et_not (et_B (ed_cN (ea_cons (ed_var (d := .int _) rfl) ea_nil) (w_law_int rfl rfl)))).is rfl) fun _ => (et_or (a := false) (b := false) ((et_test (ed_opd (ed_var rfl) (ed_var rfl) (rd_ne rfl))).is (by simp [eqS])) fun _ => (et_test (ed_opd (a := .int (2 * amt ts us (partL X Y) (noL n X Y))) (ed_cX0 (ea_cons (ed_var rfl) (ea_cons (ed_var rfl) (ea_cons (ed_var rfl) (ea_cons (ed_cN (P := (· = eIs (restL n Y))) (ea_cons (ed_var rfl) (ea_cons (ed_var rfl) ea_nil)) (w_law_rest (by omega) rfl)) ea_nil)))) (w_spared (two := true) K0 hn hz hw (.inl rfl) hX (.inl rfl) (restL_ok (l := Y)) (.inl rfl) (by rw [e3]))) (ed_var rfl) (rd_ne rfl))).is (by simp [eqS])).is rfl).is rfl) (fun h => by cases h) (fun _ => sd_next ?_))
  refine sd_cons (sd_asgd (d := .int (costL true ts us (minL X Y))) (ed_costX K0 hz hw (minL_ok (W := Y) hX) hn rfl rfl (el_min (X := X) (Y := Y) rfl rfl (by decide) (by decide) (by show 14 < 15; omega) (by omega))) ?_)
  refine sd_cons (sd_asgd (d := .int (costL true ts us (minL Y X))) (ed_costX K0 hz hw (minL_ok (W := X) hY) hn rfl rfl (el_min (X := Y) (Y := X) rfl rfl (by decide) (by decide) (by show 14 < 15; omega) (by omega))) ?_)
  have q := cost_apart (ts := ts) (us := us) hin (I := partL X Y) (O := noL n X Y) (X := X) (Y := Y) (D1 := minL X Y) (D2 := minL Y X) (fun x => mem_pL) (fun x h h' => mem_noL h h') (fun x => mem_minL) fun x => mem_minL
  refine sd_cons (sd_ifd (x := false) ((et_test (ed_opd (a := .int (2 * amt ts us (partL X Y) (noL n X Y))) ((ed_opi (f := fun i j => i - j) (ed_opi (f := fun i j => i - j) (ed_opi (f := fun i j => i + j) (ed_costX K0 hz hw hX hn rfl rfl (ed_var rfl)) (ed_costX K0 hz hw hY hn rfl rfl (ed_var rfl))) (ed_var rfl)) (ed_var rfl)).is (congrArg PyData.int (by rw [← q]; omega))) (ed_var rfl) (rd_ne rfl))).is (by simp [eqS])) (fun h => by cases h) (fun _ => sd_next ?_))
  exact sd_retd (d := .bool true) (ed_opd (ed_gates K0 hX hn hz rfl (ed_var rfl)) ((ed_gates K0 (restL_ok (l := X)) hn hz rfl (ed_cN (P := (· = eIs (restL n X))) (ea_cons (ed_var rfl) (ea_cons (ed_var rfl) ea_nil)) (w_law_rest (by omega) rfl))).is (by rw [gates_rest hin])) (rd_eqC cmp_tints (by decide))) pr
end
end PL
namespace PL
variable [DL.Tb]
open PySem PySem.Spec PyProof.Rows L2 Evl DL FL
section
variable {K : PySem.W.Frag} {a : Ad} {B : Base} {δ : En} {te ta tb tc td tf : TE} {tt tu : TT} {tA : TA} {E : XK} {P : Pd} {Po' : Po} {R : XR} {Cc : Addr} {two : Bool} {n k : Nat} {ts ps : List (Int × Int)} {us vs ws rs l row S T S2 T2 xs ys is A C W X Y Z D I O U D1 D2 : List Int} {L : List (List Int)} {Pl : List PyData → Prop} {d dl dh dr dt dw x d0 d1 d2 d3 d4 d5 g gl v : PyData} {ds tl : List PyData} {i j c b m w : Int}
def four4 : List (List Int) := [[40], [12, 40], [13, 40], [12, 13, 40]]
theorem four4_ok : LotsB (srt [40]) (srt [40, 12, 13]) four4 where
  nd := by decide
  ord := by decide
  len := by decide
  iff := fun l => by
    constructor
    · intro h
      simp only [four4, List.mem_cons, List.not_mem_nil, or_false] at h
      rcases h with rfl | rfl | rfl | rfl <;> refine ⟨by decide, fun x hx => ?_, fun x hx => ?_⟩
      all_goals
        first
        | (rw [mem_srt] at hx; rw [List.mem_singleton.mp hx]; simp; done)
        | (right; rw [mem_srt]; simp only [List.mem_cons, List.not_mem_nil, or_false] at hx ⊢; omega)
    · rintro ⟨ha, h1, h2⟩
      have h40 : (40 : Int) ∈ l := h1 40 (mem_srt.mpr (by simp))
      have hx : ∀ x ∈ l, x = 40 ∨ x = 12 ∨ x = 13 := fun x hx => by
        rcases h2 x hx with h | h
        · rw [mem_srt] at h
          simp only [List.mem_cons, List.not_mem_nil, or_false] at h
          exact .inl h
        · rw [mem_srt] at h
          simp only [List.mem_cons, List.not_mem_nil, or_false] at h
          exact h
      have eq : ∀ {m : List Int}, m ∈ four4 → m.Pairwise (· < ·) → (∀ x, x ∈ l ↔ x ∈ m) → l ∈ four4 := fun hm hp h => by rw [asc_eq ha hp h]; exact hm
      by_cases c1 : (12 : Int) ∈ l <;> by_cases c2 : (13 : Int) ∈ l
      · refine eq (m := [12, 13, 40]) (by decide) (by decide) fun x => ?_
        simp only [List.mem_cons, List.not_mem_nil, or_false]
        constructor
        · intro h
          rcases hx x h with h | h | h <;> omega
        · rintro (rfl | rfl | rfl) <;> assumption
      · refine eq (m := [12, 40]) (by decide) (by decide) fun x => ?_
        simp only [List.mem_cons, List.not_mem_nil, or_false]
        constructor
        · intro h
          rcases hx x h with h' | h' | h'
          · omega
          · omega
          · exact absurd (h' ▸ h) c2
        · rintro (rfl | rfl) <;> assumption
      · refine eq (m := [13, 40]) (by decide) (by decide) fun x => ?_
        simp only [List.mem_cons, List.not_mem_nil, or_false]
        constructor
        · intro h
          rcases hx x h with h' | h' | h'
          · omega
          · exact absurd (h' ▸ h) c1
          · omega
        · rintro (rfl | rfl) <;> assumption
      · refine eq (m := [40]) (by decide) (by decide) fun x => ?_
        simp only [List.mem_cons, List.not_mem_nil, or_false]
        constructor
        · intro h
          rcases hx x h with h' | h' | h'
          · omega
          · exact absurd (h' ▸ h) c1
          · exact absurd (h' ▸ h) c2
        · rintro rfl
          assumption
theorem all9 : LotIn (9 : Nat) (allN 9) := ⟨by decide, by decide⟩
theorem w_law_listed_right (TQ : Tq a) (T4 : ExT5 listCl K a) (er : ∀ x ∈ realL, a.er x = true) (NS : ∀ x ∈ stopL, PySem.W.subIn K (.ref (a.ec x)) (.type "StopIteration") = some false) (pr : P (.bool true)) : W_law_listed_right K a [.int (n : Int)] P := fun B => by
  have e1 : a.er "BadLot" = true := er _ (by decide)
  have e2 : a.er "NotInside" = true := er _ (by decide)
  have e3 : a.er "TooMany" = true := er _ (by decide)
  have o0 : LotIn 1 [0] := ⟨by simp, fun x hx => by rw [List.mem_singleton.mp hx]; omega⟩
  have nil : LotIn (0 : Nat) [] := lot_nil
  have told : ∀ {δ : En} {ta tb : TE} {d1 d2 : PyData} {i : Int}, ED K B ta δ (· = d1) → ED K B tb δ (· = d2) → (∀ R : XR, R (a.ec "BadLot") [("at", .int i)] → W_lots_between K a [d1, d2] (fun _ => False) R) → ED K B (tCall (SpW K 2 (W_law_listed_told K a)) [] E0 (tCons ta (tCons tb tNil))) δ (· = .int i) := fun {δ ta tb d1 d2 i} h1 h2 h => ed_cN (ea_cons h1 (ea_cons h2 ea_nil)) (w_law_listed_told (x := ⟨"BadLot", "at", 3, true, [.f]⟩) T4 NS (.head _) h rfl)
  have nine : ∀ {δ : En}, ED K B (tLstRg (tRg1 (tC (.int 9)))) δ (· = eIs (allN 9)) := (EL.edd (el_lrg (n := 9) ed_int (by omega))).is rfl
  refine sd_cons (sd_ifd (x := false) ((et_or (a := false) (b := false) (et_test (ed_opd (told (i := 1) (ed_l2 ed_int ed_int) ed_non fun R r => x_lb_first (x_good_lotN (l := [0]) (x := .int 0) (xs := []) e1 o0 ⟨rfl, fun _ => ⟨0, rfl, .inr (by simp)⟩⟩ (.inl rfl) r)) ed_int (rd_neC (k := 0) cmp_int (by decide)))) fun _ =>
    (et_or (a := false) (b := false) (et_test (ed_opd (told (i := 1) (ed_tup (ds := []) ea_nil (Nat.zero_le _)) (ed_l2 ed_int (ed_m1 (i := 1))) fun R r => x_lb_second (I := []) nil (by decide) (.inr rfl) (x_good_lotN (l := [0]) (x := .int (-1)) (xs := []) e1 o0 ⟨rfl, fun _ => ⟨-1, rfl, .inl (by decide)⟩⟩ (.inl rfl) r)) ed_int (rd_neC (k := 0) cmp_int (by decide)))) fun _ =>
    et_test (ed_opd (told (i := -1) (ed_tup (ds := []) ea_nil (Nat.zero_le _)) ed_non fun R r => x_lb_second (I := []) nil (by decide) (.inr rfl) (x_good_lotN_no e1 rfl rfl r)) (ed_m1 (i := 1)) (rd_neC (k := 0) cmp_int (by decide)))).is rfl).is rfl) (fun h => by cases h) (fun _ => sd_next ?_))
  refine sd_cons (sd_ifd (x := false) ((et_or (a := false) (b := false) (et_test (ed_opd (told (i := 0) ed_l0 (ed_l1 ed_bl) fun R r => x_lb_second (I := []) nil (by decide) (.inl rfl) (x_good_lotN (l := []) (x := .bool true) (xs := []) e1 nil ⟨rfl, fun h => by cases h⟩ (.inl rfl) r)) ed_int (rd_neC (k := 0) cmp_int (by decide)))) fun _ =>
    et_test (ed_opd (told (i := 1) (ed_tup (ds := [.int (n : Int), .str "0"]) (ea_cons (ed_var rfl) (ea_cons ed_str ea_nil)) (by show 2 ≤ 100000; omega)) (ed_l1 ed_int) fun R r => x_lb_first (x_good_lotN (n := (n : Int) + 1) (l := [(n : Int)]) (x := .str "0") (xs := []) e1 ⟨by simp, fun x hx => by rw [List.mem_singleton.mp hx]; omega⟩ ⟨rfl, fun h => by cases h⟩ (.inr rfl) r)) ed_int (rd_neC (k := 0) cmp_int (by decide)))).is rfl) (fun h => by cases h) (fun _ => sd_next ?_))
  refine sd_cons (sd_ifd (x := false) ((et_or (a := false) (b := false) (et_test (ed_opd (ed_cN (P := (· = .list [.str "inside", .int 9])) (ea_cons (ed_l1 (x := .int 9) ed_int) (ea_cons nine ea_nil)) (w_law_listed_told (x := ⟨"NotInside", "place", 4, false, [.w "inside", .f]⟩) (v := .int 9) T4 NS (.tail _ (.head _)) (fun R r => x_lb_out (q := 9) e2 (by decide) all9 (by decide) (.inl rfl) (by decide) (.inl rfl) r) rfl)) (ed_l2 ed_str ed_int) (rd_neC (k := 1) (cmp_l2s (by decide +kernel)) (by decide)))) fun _ =>
    et_test (ed_opd (ed_cN (P := (· = .list [.str "many", .int 9])) (ea_cons (ed_tup (ds := []) ea_nil (Nat.zero_le _)) (ea_cons nine ea_nil)) (w_law_listed_told (x := ⟨"TooMany", "size", 5, false, [.w "many", .f]⟩) (v := .int 9) T4 NS (.tail _ (.tail _ (.head _))) (fun R r => x_lb_many (n := 9) (I := []) (O := allN 9) e3 lot_nil all9 (by omega) (by decide) (fun x hx => by cases hx) (.inr rfl) (.inl rfl) r) rfl)) (ed_l2 ed_str ed_int) (rd_neC (k := 1) (cmp_l2s (by decide +kernel)) (by decide)))).is rfl) (fun h => by cases h) (fun _ => sd_next ?_))
  refine sd_cons (sd_asgd (d := .list (four4.map eU)) (EL.edd (el_lst (ds := four4.map eU) (ea_cons (ed_tup (ds := [.int 40]) (ea_cons ed_int ea_nil) (by show 1 ≤ 100000; omega)) (ea_cons (ed_tup (ds := [.int 12, .int 40]) (ea_cons ed_int (ea_cons ed_int ea_nil)) (by show 2 ≤ 100000; omega)) (ea_cons (ed_tup (ds := [.int 13, .int 40]) (ea_cons ed_int (ea_cons ed_int ea_nil)) (by show 2 ≤ 100000; omega)) (ea_cons (ed_tup (ds := [.int 12, .int 13, .int 40]) (ea_cons ed_int (ea_cons ed_int (ea_cons ed_int ea_nil))) (by show 3 ≤ 100000; omega)) ea_nil)))) (by show 4 ≤ 100000; omega))) ?_)
  exact sd_retd (d := .bool true) (ed_opd (a := .list (four4.map eU)) ((ed_lsG (ds := [.tuple [.int 40], .list [.int 40, .int 12, .int 13]]) (P := (· = four4.map eU)) (ea_cons (ed_tup (ds := [.int 40]) (ea_cons ed_int ea_nil) (by show 1 ≤ 100000; omega)) (ea_cons (ed_l3 ed_int ed_int ed_int) ea_nil)) (w_lots_between (n := 41) (I := [40]) (O := [40, 12, 13]) TQ ⟨by decide, by decide⟩ ⟨by decide, by decide⟩ (by omega) (by decide) (by decide) (.inr rfl) (.inl rfl) four4_ok rfl)).imp fun d h => by
    obtain ⟨es, h1, h2⟩ := h
    rw [h2, h1]) (ed_var rfl) (rd_eqC cmp_Us (by decide))) pr
theorem w_law_refused (K0 : Nk K a) (T1 : ExT5 lotCl K a) (T2 : ExT5 worldCl K a) (T3 : ExT5 apartCl K a) (er : ∀ x ∈ realL, a.er x = true) (n1 : 1 ≤ n) (hn : n ≤ 12) (hz : ts.length ≤ 20) (hw : WdOk ts us) (hc : CapT us) (hX : LotIn n X) (pr : P (.bool true)) : W_law_refused K a [eNet (cC a two) (n : Int) ts, eIs us, eIs X] P := fun B => by
  have e1 : a.er "BadLot" = true := er _ (by decide)
  have e2 : a.er "BadWorld" = true := er _ (by decide)
  have ul := hw.len
  refine sd_cons (sd_asg (Pd := fun d => ∃ g v, BadLt K a n g v ∧ d = .list [g, v]) (ed_cDd rfl (ea_cons (ed_copy rfl) (ea_cons (ed_size (K0.n two) rfl) ea_nil)) (w_law_bad_lot e1 hn hX fun g v h => ⟨g, v, h, rfl⟩)) ?_)
  rintro _ ⟨g, v, bl, rfl⟩
  have b0 : ∀ {δ : En}, δ[4]? = some (.sh (.list [g, v])) → ED K B (tOp (rIxL K) (tVar 4) (tC (.int 0))) δ (· = g) := fun h => ed_ixd (ds := [g, v]) (j := 0) (ed_var h) ed_int rfl
  have b1 : ∀ {δ : En}, δ[4]? = some (.sh (.list [g, v])) → ED K B (tOp (rIxL K) (tVar 4) (tC (.int 1))) δ (· = v) := fun h => ed_ixd (ds := [g, v]) (j := 1) (ed_var h) ed_int rfl
  have rb : ∀ {δ : En}, δ[4]? = some (.sh (.list [g, v])) → ED K B (tCB (rReprA K) (tCons (tOp (rIxL K) (tVar 4) (tC (.int 0))) tNil)) δ (· = .str g.shown) := fun h => ed_cb (ea_cons (b0 h) ea_nil) (cd_reprV bl.shi.no bl.shi.sh (Nat.le_trans bl.shi.dep (by decide)) (Nat.le_trans bl.shi.len (by rw [sizeLine_eq]; decide)))
  have c3 : ∀ {v : PyData}, (∃ i : Int, v = .int i) → Cmp 1 (.list [v, .bool true, .bool false]) := fun {v} h => by
    obtain ⟨i, rfl⟩ := h
    refine cmp_list fun x hx => ?_
    simp only [List.mem_cons, List.not_mem_nil, or_false] at hx
    rcases hx with rfl | rfl | rfl
    · exact cmp_int
    · exact cmp_bl
    · exact cmp_bl
  refine sd_cons (sd_asgd (rb rfl) ?_)
  refine sd_at (δ2 := [.dr, .sh (eNet (cC a two) (n : Int) ts), .sh (eIs us), .sh (eIs X), .sh (.list [g, v]), .sh (.str g.shown), .no, .no, .no]) rfl ?_
  refine sd_cons (sd_rng1 (n := 3) (fun _ δ' => ∃ s6 : Sl, δ' = [.dr, .sh (eNet (cC a two) (n : Int) ts), .sh (eIs us), .sh (eIs X), .sh (.list [g, v]), .sh (.str g.shown), s6, .no, .no]) (ea_cons ed_int ea_nil) (by decide) ⟨_, rfl⟩ ?_ ?_)
  · rintro q _ hq ⟨s6, rfl⟩
    exact sd_ifd (x := false) (et_test (ed_opd (ed_cNP (P := (· = .list [v, .bool true, .bool false])) (ea_consP (ed_take rfl ed_int (by decide)) (ea_cons (ed_var rfl) (ea_cons (ed_var rfl) (ea_cons (b0 rfl) ea_nil)))) (by
      rintro _ ⟨_, _, ⟨w, ⟨w0, w1⟩, rfl⟩, rfl, rfl⟩
      exact ⟨rfl, w_law_lot_door K0 T1 n1 hn (by omega) hw bl rfl⟩)) (ed_l3 (b1 rfl) ed_bl ed_bl) (rd_neC (c3 bl.int) (by decide)))) (fun h => by cases h) (fun _ => sd_next ⟨_, rfl⟩)
  rintro _ ⟨s6, rfl⟩
  refine sd_cons (sd_asg (Pd := fun d => ∃ g v, BadWd K a (ts.length : Int) g v ∧ d = .list [g, v]) (ed_cDd rfl (ea_cons (ed_var rfl) ea_nil) (w_law_bad_world e2 hc (by omega) fun g v h => ⟨g, v, ul ▸ h, rfl⟩)) ?_)
  rintro _ ⟨g2, v2, bw, rfl⟩
  have w0 : ∀ {δ : En}, δ[7]? = some (.sh (.list [g2, v2])) → ED K B (tOp (rIxL K) (tVar 7) (tC (.int 0))) δ (· = g2) := fun h => ed_ixd (ds := [g2, v2]) (j := 0) (ed_var h) ed_int rfl
  have w1 : ∀ {δ : En}, δ[7]? = some (.sh (.list [g2, v2])) → ED K B (tOp (rIxL K) (tVar 7) (tC (.int 1))) δ (· = v2) := fun h => ed_ixd (ds := [g2, v2]) (j := 1) (ed_var h) ed_int rfl
  refine sd_at (δ2 := [.dr, .sh (eNet (cC a two) (n : Int) ts), .sh (eIs us), .sh (eIs X), .sh (.list [g, v]), .sh (.str g.shown), s6, .sh (.list [g2, v2]), .no]) rfl ?_
  refine sd_cons (sd_rng1 (n := 3) (fun _ δ' => ∃ s8 : Sl, δ' = [.dr, .sh (eNet (cC a two) (n : Int) ts), .sh (eIs us), .sh (eIs X), .sh (.list [g, v]), .sh (.str g.shown), s6, .sh (.list [g2, v2]), s8]) (ea_cons ed_int ea_nil) (by decide) ⟨_, rfl⟩ ?_ ?_)
  · rintro q _ hq ⟨s8, rfl⟩
    exact sd_ifd (x := false) (et_test (ed_opd (a := .list [v2, .bool true, .bool false]) (ed_cN (ea_cons (ed_var (d := .int (q : Int)) rfl) (ea_cons (ed_var rfl) (ea_cons (w0 rfl) (ea_cons (b0 rfl) ea_nil)))) (w_law_world_told K0 T2 bw rfl)) (ed_l3 (w1 rfl) ed_bl ed_bl) (rd_neC (c3 bw.int) (by decide)))) (fun h => by cases h) (fun _ => sd_next ⟨_, rfl⟩)
  rintro _ ⟨s8, rfl⟩
  have fin : SD K B (tRet (tOp rEq (tCB (rReprA K) (tCons (tOp (rIxL K) (tVar 4) (tC (.int 0))) tNil)) (tVar 5))) [.dr, .sh (eNet (cC a two) (n : Int) ts), .sh (eIs us), .sh (eIs X), .sh (.list [g, v]), .sh (.str g.shown), s6, .sh (.list [g2, v2]), s8] (Pn P) := sd_retd (d := .bool true) ((ed_opd (rb rfl) (ed_var rfl) (rd_eq rfl)).is (by simp [eqS])) pr
  obtain ⟨u, hk⟩ := K0.k two
  cases two with
  | false => exact sd_cons (sd_ifd (x := false) ((et_test (ed_opd (ed_con (d := .str "oneway") (K0.n false).cl hk nok_net (fun _ => .str _) (ed_var rfl)) ed_str (rd_eq rfl))).is (by show decide (("oneway" : Str) = "twoway") = false; exact decide_eq_false (by decide +kernel))) (fun h => by cases h) (fun _ => sd_next fin))
  | true =>
    refine sd_cons (sd_ifd (x := true) ((et_test (ed_opd (ed_con (d := .str "twoway") (K0.n true).cl hk nok_net (fun _ => .str _) (ed_var rfl)) ed_str (rd_eq rfl))).is (by show decide (("twoway" : Str) = "twoway") = true; exact decide_eq_true rfl)) (fun _ => ?_) (fun h => by cases h))
    have cw : Cmp 1 (.tuple [.str "world", v2]) := by
      obtain ⟨i, rfl⟩ := bw.int
      refine cmp_tup fun x hx => ?_
      simp only [List.mem_cons, List.not_mem_nil, or_false] at hx
      rcases hx with rfl | rfl
      · exact cmp_str (by decide +kernel)
      · exact cmp_int
    have cv : Cmp 0 v := by
      obtain ⟨i, rfl⟩ := bl.int
      exact cmp_int
    refine sd_cons (sd_ifd (x := false) (et_test (ed_opd (a := .tuple [.str "world", v2]) (ed_cN (ea_cons (ed_var rfl) (ea_cons (w0 rfl) (ea_cons (b0 rfl) (ea_cons (ed_l2 ed_int ed_int) ea_nil)))) (w_law_apart_told (x := ⟨"BadWorld", "at", 7, true, [.tw "world"]⟩) T3 (.tail _ (.tail _ (.head _))) rfl (fun R r => x_sa_world K0 (bw.ref R r)) rfl)) (ed_tup (ds := [.str "world", v2]) (ea_cons ed_str (ea_cons (w1 rfl) ea_nil)) (by show 2 ≤ 100000; omega)) (rd_neC cw (by decide)))) (fun h => by cases h) (fun _ => sd_next ?_))
    exact sd_ifd (x := false) ((et_or (a := false) (b := false) (et_test (ed_opd (a := v) (ed_cN (ea_cons (ed_var rfl) (ea_cons (ed_var rfl) (ea_cons (b0 rfl) (ea_cons (ed_l2 ed_int ed_int) ea_nil)))) (w_law_apart_told (x := ⟨"BadLot", "at", 6, true, [.f]⟩) T3 (.tail _ (.head _)) rfl (fun R r => x_sa_first K0 (by omega) hw (.inl rfl) (bl.ref R r)) rfl)) (b1 rfl) (rd_neC cv (by decide)))) fun _ =>
      et_test (ed_opd (a := v) (ed_cN (ea_cons (ed_var rfl) (ea_cons (ed_var rfl) (ea_cons ed_l0 (ea_cons (b0 rfl) ea_nil)))) (w_law_apart_told (x := ⟨"BadLot", "at", 6, true, [.f]⟩) T3 (.tail _ (.head _)) rfl (fun R r => x_sa_second (X := []) K0 hn (by omega) hw (.inl rfl) lot_nil (.inl rfl) (bl.ref R r)) rfl)) (b1 rfl) (rd_neC cv (by decide)))).is rfl) (fun h => by cases h) (fun _ => sd_next fin)
end
end PL
namespace PL
variable [DL.Tb]
open PySem PySem.Spec PyProof.Rows L2 Evl DL FL
section
variable {K : PySem.W.Frag} {a : Ad} {B : Base} {δ : En} {te ta tb tc td tf : TE} {tt tu : TT} {tA : TA} {E : XK} {P : Pd} {Po' : Po} {R : XR} {Cc : Addr} {two : Bool} {n k : Nat} {ts ps : List (Int × Int)} {us vs ws rs l row S T S2 T2 xs ys is A C W X Y Z D I O U D1 D2 : List Int} {L : List (List Int)} {Pl : List PyData → Prop} {d dl dh dr dt dw x d0 d1 d2 d3 d4 d5 g gl v : PyData} {ds tl : List PyData} {i j c b m w : Int}
theorem shw_ties {n : Nat} (hn : n ≤ 12) (hin : InR n ts) (hz : ts.length ≤ 12) : Shw 2 1900 (eTs ts) := shw_list (k := 1) (w := 75) (fun x hx => by
  obtain ⟨p, hp, rfl⟩ := List.mem_map.mp hx
  have q := hin p hp
  have big : (12 : Nat) < 10 ^ 33 := by decide
  exact shw_tup2 (k := 0) (w := 34) (xs := [.int p.1, .int p.2]) (fun y hy => by
    simp only [List.mem_cons, List.not_mem_nil, or_false] at hy
    rcases hy with rfl | rfl
    · exact shw_int (by omega)
    · exact shw_int (by omega)) (by show 36 * 2 + 3 ≤ 75; omega)) (by rw [List.length_map]; omega)
theorem sd_lawR (K0 : Nk K a) (TQ : Tq a) (T1 : ExT5 lotCl K a) (T2 : ExT5 worldCl K a) (T3 : ExT5 apartCl K a) (T4 : ExT5 listCl K a) (T5 : ExT5 wayCl K a) (er : ∀ x ∈ realL, a.er x = true) (NS : ∀ x ∈ stopL, PySem.W.subIn K (.ref (a.ec x)) (.type "StopIteration") = some false) : SD K B (t_lawR K a) (.no :: .dr :: List.replicate 14 .no) ⟨fun _ => False, (· = .bool true), fun _ => False, fun _ => False⟩ := by
  refine sd_cons (sd_asg (Pd := fun d => ∃ two, d = .str (kn two)) (ed_cDd rfl ea_nil (w_law_kind fun two => ⟨two, rfl⟩)) ?_)
  rintro _ ⟨two, rfl⟩
  refine sd_cons (sd_asg (Pd := fun d => ∃ (n : Int) (ts : List (Int × Int)), d = eN n ts ∧ 1 ≤ n ∧ n ≤ 12 ∧ InR n ts ∧ ts.length ≤ 12) (ed_cDd rfl ea_nil (w_law_any_net fun n ts h1 h2 h3 h4 => ⟨n, ts, rfl, h1, h2, h3, h4⟩)) ?_)
  rintro _ ⟨n, ts, rfl, n1, n6, hin, hz⟩
  obtain ⟨n, rfl⟩ : ∃ k : Nat, n = (k : Int) := ⟨n.toNat, by omega⟩
  have hn : n ≤ 12 := by omega
  refine sd_cons (sd_asgd (ed_ixd (ds := [.int (n : Int), eTs ts]) (j := 0) (ed_var rfl) ed_int rfl) ?_)
  refine sd_cons (sd_asgd (ed_ixd (ds := [.int (n : Int), eTs ts]) (j := 1) (ed_var rfl) ed_int rfl) ?_)
  refine sd_cons (sd_asg (Pd := fun d => ∃ us : List Int, d = eIs us ∧ us.length = ts.length ∧ CapT us) (ed_cDd rfl (ea_cons ((ed_lenL (ed_var rfl)).is (e := .int (ts.length : Int)) (by rw [List.length_map])) ea_nil) (w_worldT (by omega) (by omega) fun us h1 h2 => ⟨us, rfl, by omega, h2⟩)) ?_)
  rintro _ ⟨us, rfl, ul, hc⟩
  have hw : WdOk ts us := ⟨ul, fun u hu => (hc u hu).1⟩
  refine sd_cons (sd_asg (Pd := fun d => ∃ X : List Int, d = eIs X ∧ LotIn n X) (ed_cDd rfl (ea_cons (ed_var rfl) ea_nil) (w_law_lot hn fun X h => ⟨X, rfl, h⟩)) ?_)
  rintro _ ⟨X, rfl, hX⟩
  refine sd_cons (sd_asg (Pd := fun d => ∃ X : List Int, d = eIs X ∧ LotIn n X) (ed_cDd rfl (ea_cons (ed_var rfl) ea_nil) (w_law_lot hn fun X h => ⟨X, rfl, h⟩)) ?_)
  rintro _ ⟨Y, rfl, hY⟩
  have lX := lot_len hX
  have lY := lot_len hY
  refine sd_cons (sd_asgd (d := eNet (cC a two) (n : Int) ts) (ed_cN (ea_cons (ed_var rfl) (ea_cons (ed_var rfl) (ea_cons (ed_var rfl) ea_nil))) (w_law_built K0 (by omega) (by omega) hin (by omega) rfl)) ?_)
  have shw : Shw 3 8000 (.list [eTs ts, eIs us, eIs X, eIs Y]) := shw_list (k := 2) (w := 1900) (fun x hx => by
    simp only [List.mem_cons, List.not_mem_nil, or_false] at hx
    rcases hx with rfl | rfl | rfl | rfl
    · exact shw_ties hn hin hz
    · refine (shw_ints (k := 0) (fun i hi => ?_) (by omega)).le (by decide) (by decide)
      have := hc i hi
      omega
    · exact (shi_small hn hX.2 (by omega)).le (by decide) (by decide)
    · exact (shi_small hn hY.2 (by omega)).le (by decide) (by decide)) (by show (1900 + 2) * 4 + 3 ≤ 8000; omega)
  have rp : ∀ {δ : En}, δ[5]? = some (.sh (eTs ts)) → δ[6]? = some (.sh (eIs us)) → δ[7]? = some (.sh (eIs X)) → δ[8]? = some (.sh (eIs Y)) → ED K B (tCB (rReprA K) (tCons (tLst (tCons (tVar 5) (tCons (tVar 6) (tCons (tVar 7) (tCons (tVar 8) tNil))))) tNil)) δ (· = .str (PyData.list [eTs ts, eIs us, eIs X, eIs Y]).shown) := fun h1 h2 h3 h4 => ed_cb (ea_cons (EL.edd (el_lst (ea_cons (ed_var h1) (ea_cons (ed_var h2) (ea_cons (ed_var h3) (ea_cons (ed_var h4) ea_nil)))) (by show 4 ≤ 100000; omega))) ea_nil) (cd_shw shw (by decide) (by decide) (.inl ⟨_, rfl⟩))
  refine sd_cons (sd_asgd (rp rfl rfl rfl rfl) ?_)
  generalize eK : (PyData.list [eTs ts, eIs us, eIs X, eIs Y]).shown = kept at rp
  refine sd_at (δ2 := [.no, .dr, .sh (.str (kn two)), .sh (eN (n : Int) ts), .sh (.int (n : Int)), .sh (eTs ts), .sh (eIs us), .sh (eIs X), .sh (eIs Y), .sh (eNet (cC a two) (n : Int) ts), .sh (.str kept), .no, .no, .no, .no, .no]) rfl ?_
  refine sd_cons (sd_asgd (d := eIs (minL X Y)) (el_min (X := X) (Y := Y) rfl rfl (by decide) (by decide) (by show 15 < 16; omega) (by omega)) ?_)
  refine sd_cons (sd_asgd (d := eIs (minL Y X)) (el_min (X := Y) (Y := X) rfl rfl (by decide) (by decide) (by show 15 < 16; omega) (by omega)) ?_)
  refine sd_cons (sd_asgd (d := .int (amt ts us (minL X Y) (minL Y X))) (ed_cN (ea_cons (ed_var rfl) (ea_cons (ed_var rfl) (ea_cons (ed_var rfl) (ea_cons (ed_var rfl) ea_nil)))) (w_law_amount_between (by omega) ul rfl)) ?_)
  have sym : amt ts us (minL Y X) (minL X Y) = amt ts us (minL X Y) (minL Y X) := amt_comm
  generalize eD : (if two = true then (2 : Int) else 1) * amt ts us (minL X Y) (minL Y X) = due
  refine sd_mid (fun δ' => δ' = [.no, .dr, .sh (.str (kn two)), .sh (eN (n : Int) ts), .sh (.int (n : Int)), .sh (eTs ts), .sh (eIs us), .sh (eIs X), .sh (eIs Y), .sh (eNet (cC a two) (n : Int) ts), .sh (.str kept), .sh (eIs (minL X Y)), .sh (eIs (minL Y X)), .sh (.int due), .no, .no]) ?_ ?_
  · cases two with
    | false => exact sd_ifd (x := false) ((et_test (ed_opd (ed_var rfl) ed_str (rd_eq rfl))).is (by show decide (("oneway" : Str) = "twoway") = false; exact decide_eq_false (by decide +kernel))) (fun h => by cases h) (fun _ => sd_next (by
        have e : amt ts us (minL X Y) (minL Y X) = due := by rw [← eD, if_neg (by decide), Int.one_mul]
        rw [e]
        rfl))
    | true => exact sd_ifd (x := true) ((et_test (ed_opd (ed_var rfl) ed_str (rd_eq rfl))).is (by show decide (("twoway" : Str) = "twoway") = true; exact decide_eq_true rfl)) (fun _ => sd_asgd (d := .int due) ((ed_opc (C := CMul) (f := fun i j => i * j) ed_int (ed_var rfl) (.inl ⟨by decide, by decide⟩)).is (by rw [← eD, if_pos rfl])) rfl) (fun h => by cases h)
  rintro _ rfl
  have sp : ∀ {δ : En} {p q : Nat} {X' Y' : List Int}, LotIn n X' → LotIn n Y' → (if two = true then (2 : Int) else 1) * amt ts us (minL X' Y') (minL Y' X') = due → δ[9]? = some (.sh (eNet (cC a two) (n : Int) ts)) → δ[6]? = some (.sh (eIs us)) → δ[p]? = some (.sh (eIs X')) → δ[q]? = some (.sh (eIs Y')) → ED K B (tCall (SpWX K 4 (W_spared K a)) [] E0 (tCons (tVar 9) (tCons (tVar 6) (tCons (tVar p) (tCons (tVar q) tNil))))) δ (· = .int due) := fun {δ p q X' Y'} a1 a2 e h9 h6 h7 h8 => ed_cX0 (ea_cons (ed_var h9) (ea_cons (ed_var h6) (ea_cons (ed_var h7) (ea_cons (ed_var h8) ea_nil)))) (w_spared K0 hn (by omega) hw (.inl rfl) a1 (.inl rfl) a2 (.inl rfl) (by rw [e]))
  refine sd_cons (sd_asgd (d := .int due) (ed_cXP (ea_consP (ed_var (d := eNet (cC a two) (n : Int) ts) rfl) (ea_consP (ed_cb (ds := [.list (us.map PyData.int)]) (ea_cons (ed_var rfl) ea_nil) cd_tupL) (ea_consP (ed_cDd (P := HandV X) rfl (ea_cons (ed_var rfl) ea_nil) (w_law_handed (by omega) (.inl rfl) fun e h => h)) (ea_consP (ed_cDd (P := HandV Y) rfl (ea_cons (ed_var rfl) ea_nil) (w_law_handed (by omega) (.inl rfl) fun e h => h)) ea_nil)))) (by
    rintro _ ⟨_, _, rfl, ⟨_, _, rfl, ⟨e1, _, ⟨k1, kp1, kr1⟩, ⟨e2, _, ⟨k2, kp2, kr2⟩, rfl, rfl⟩, rfl⟩, rfl⟩, rfl⟩
    refine ⟨rfl, w_spared K0 hn (by omega) hw (.inr rfl) (lot_perm kp1 hX) kr1 (lot_perm kp2 hY) kr2 ?_⟩
    rw [amt_mem (A' := minL X Y) (C' := minL Y X) (fun x => by rw [mem_minL, mem_minL, kp1.mem_iff, kp2.mem_iff]) (fun x => by rw [mem_minL, mem_minL, kp1.mem_iff, kp2.mem_iff]), eD]) EOk.no) ?_)
  refine sd_cons (sd_ifd (x := false) ((et_or (a := false) (b := false) ((et_not (et_B (ed_cN (ea_cons (ed_var (d := .int due) rfl) ea_nil) (w_law_int rfl rfl)))).is rfl) fun _ => (et_or (a := false) (b := false) ((et_test (ed_opd (ed_var rfl) (ed_var rfl) (rd_ne rfl))).is (by simp [eqS])) fun _ => (et_test (ed_opd (sp hY hX (by rw [sym, eD]) rfl rfl rfl rfl) (ed_var rfl) (rd_ne rfl))).is (by simp [eqS])).is rfl).is rfl) (fun h => by cases h) (fun _ => sd_next ?_))
  refine sd_cons (sd_ifd (x := false) ((et_test (ed_opd (a := .int due) (ed_cDd rfl (ea_cons (ed_var rfl) (ea_cons (ed_var rfl) (ea_cons (ed_var rfl) (ea_cons (ed_var rfl) ea_nil)))) (w_law_four K0 hn (by omega) hw hX hY (by rw [eD]))) (ed_var rfl) (rd_ne rfl))).is (by simp [eqS])) (fun h => by cases h) (fun _ => sd_next ?_))
  refine sd_cons (sd_ifd (x := false) ((et_not (et_B (ed_cDd rfl (ea_cons (ed_var rfl) (ea_cons (ed_var rfl) (ea_cons (ed_var rfl) (ea_cons (ed_var rfl) (ea_cons (ed_var rfl) (ea_cons (ed_var rfl) ea_nil)))))) (w_law_apart_right K0 T3 T5 er hn hin (by omega) hw hX hY rfl)))).is rfl) (fun h => by cases h) (fun _ => sd_next ?_))
  refine sd_cons (sd_ifd (x := false) ((et_or (a := false) (b := false) ((et_not (et_B (ed_cDd rfl (ea_cons (ed_var rfl) (ea_cons (ed_var rfl) (ea_cons (ed_var rfl) ea_nil))) (w_law_corners_right (by omega) hn hX hY rfl)))).is rfl) fun _ => (et_not (et_B (ed_cDd rfl (ea_cons (ed_var rfl) (ea_cons (ed_var rfl) (ea_cons (ed_var rfl) ea_nil))) (w_law_refused K0 T1 T2 T3 er (by omega) hn (by omega) hw hc hX rfl)))).is rfl).is rfl) (fun h => by cases h) (fun _ => sd_next ?_))
  refine sd_cons (sd_ifd (x := false) ((et_or (a := false) (b := false) ((et_test (ed_opd (sp hX hY eD rfl rfl rfl rfl) (ed_var rfl) (rd_ne rfl))).is (by simp [eqS])) fun _ => (et_not (et_B (ed_cN (ea_cons (ed_var rfl) ea_nil) (w_law_listed_right TQ T4 er NS rfl)))).is rfl).is rfl) (fun h => by cases h) (fun _ => sd_next ?_))
  exact sd_retd (d := .bool true) ((ed_opd (rp rfl rfl rfl rfl) (ed_var rfl) (rd_eq rfl)).is (by simp [eqS])) rfl
end
end PL
namespace PL
variable [DL.Tb]
open PySem PySem.Spec PyProof.Rows L2 Evl DL
section
variable {K : PySem.W.Frag} {a : Ad}
def spLaw (K : PySem.W.Frag) : Sp := fun vs H Q _ => ∃ (a : Addr) (ns : List Int), vs = [.ref a] ∧ SqL K H a (ns.map V.int) ∧ ns.length ≤ 63 ∧ (∀ b, Tb.tb b → Tb.ok H b) ∧ ∀ H', Q (.bl true) H'
theorem law_run {vs : List V} {H : Hp} {Q : VK} {E : XK} (K0 : Nk K a) (T1 : ExT5 lotCl K a) (T2 : ExT5 worldCl K a) (T3 : ExT5 apartCl K a) (T4 : ExT5 listCl K a) (T5 : ExT5 wayCl K a) (er : ∀ x ∈ realL, a.er x = true) (NS : ∀ x ∈ stopL, PySem.W.subIn K (.ref (a.ec x)) (.type "StopIteration") = some false) (TQ : Tq a) (h : spLaw K vs H Q E) : t_law K a { nx := fun _ H' => Q .non H', rt := Q } (L2.start N_law vs) H := by
  obtain ⟨a0, ns, rfl, hS, hl, tb, k⟩ := h
  refine ⟨.ref a0, rfl, a0, ns, rfl, hS, hl, tb, fun p H' hd ht => ?_⟩
  have nn : ∀ {i : Nat} {s : Sl}, (List.replicate 14 Sl.no)[i]? = some s → s = .no := fun {i s} e => by
    rw [List.getElem?_replicate] at e
    split at e
    · exact (Option.some.inj e).symm
    · cases e
  have E : EnvD K ⟨fun _ => none, fun _ => none, (· = p)⟩ (fun _ => none) H' ((L2.start N_law [.ref a0]).set 1 (some (.ref p))) (.no :: .dr :: List.replicate 14 .no) :=
    ⟨⟨fun _ _ e => (nomatch e), fun _ _ e => (nomatch e), fun _ _ e => (nomatch e), fun _ _ _ => rfl, fun b hb => ⟨rfl, hb, fun m => by rw [show b = p from m]; exact hd, fun m => ht b m⟩⟩, rfl, fun i s e => by
      rcases i with _ | _ | i
      · cases e; trivial
      · cases e; exact ⟨p, rfl, rfl⟩
      · have e := nn (i := i) e
        subst e
        trivial, fun i j s t b hij h1 h2 h3 h4 => by
      rcases i with _ | _ | i
      · cases h1; exact h3.elim
      · cases h1; exact h3.elim
      · have e := nn (i := i) h1
        subst e
        exact h3.elim⟩
  exact sd_lawR K0 TQ T1 T2 T3 T4 T5 er NS _ H' _ _ E (fun _ _ _ _ q => q.elim) (fun v d G1 H1 q _ _ r => by
    subst q
    rw [r.b]
    exact k H1) (fun _ _ _ _ q => q.elim) (fun _ _ _ _ q => q.elim)
end
end PL
namespace K02
open PySem PySem.Spec PyProof.Rows L2 Evl DL PL
variable [DL.Tb]
def er0 (x : Str) : Bool := decide (x ∈ (["BadWorld", "BadLot", "NotInside", "TooMany", "NotTwoway"] : List Str))
abbrev ad (K : PySem.W.Frag) : Ad := ⟨He.ga K "Oneway", He.ga K "Twoway", fun x => He.ga K x, er0, PT⟩
theorem er0_BadNumber : er0 "BadNumber" = false := by decide +kernel
theorem er0_BadLot : er0 "BadLot" = true := by decide +kernel
theorem er0_BadNet : er0 "BadNet" = false := by decide +kernel
theorem er0_BadWorld : er0 "BadWorld" = true := by decide +kernel
theorem er0_NotInside : er0 "NotInside" = true := by decide +kernel
theorem er0_Meeting : er0 "Meeting" = false := by decide +kernel
theorem er0_TooMany : er0 "TooMany" = true := by decide +kernel
theorem er0_NotTwoway : er0 "NotTwoway" = true := by decide +kernel
section
variable {P : Program} {w : World} {K : PySem.W.Frag} {mg : Str → Option Value} {base h : Heap}
theorem nt_Oneway (c : Says K) : NetTxt K (He.ga K "Oneway") := ⟨He.cls_ok ((Q3 c).d.fact 12 (f := .cls "Oneway") rfl), He.noat_ok ((Q3 c).d.fact 13 (f := .noat "Oneway" "size") rfl), He.noat_ok ((Q3 c).d.fact 14 (f := .noat "Oneway" "ties") rfl)⟩
theorem nt_Twoway (c : Says K) : NetTxt K (He.ga K "Twoway") := ⟨He.cls_ok ((Q3 c).d.fact 16 (f := .cls "Twoway") rfl), He.noat_ok ((Q3 c).d.fact 17 (f := .noat "Twoway" "size") rfl), He.noat_ok ((Q3 c).d.fact 18 (f := .noat "Twoway" "ties") rfl)⟩
theorem nk (c : Says K) : Nk K (ad K) := ⟨nt_Oneway c, nt_Twoway c, He.conB_ok ((Q2 c).b 0), He.conB_ok ((Q2 c).b 1)⟩
theorem bl (c : Says K) (X : K.In h) (G : h.Ns mainGlobals mg) : Blt mg := ⟨He.free_ok X G ((Q2 c).d.fact 17 (f := .free "len") rfl), He.free_ok X G ((Q2 c).d.fact 18 (f := .free "range") rfl), He.free_ok X G ((Q2 c).d.fact 19 (f := .free "min") rfl), He.free_ok X G ((Q2 c).d.fact 20 (f := .free "max") rfl), He.free_ok X G ((Q2 c).d.fact 21 (f := .free "int") rfl), He.free_ok X G ((Q2 c).d.fact 22 (f := .free "list") rfl), He.free_ok X G ((Q2 c).d.fact 23 (f := .free "tuple") rfl), He.free_ok X G ((Q2 c).d.fact 24 (f := .free "sum") rfl), He.free_ok X G ((Q2 c).d.fact 25 (f := .free "all") rfl), He.free_ok X G ((Q2 c).d.fact 26 (f := .free "any") rfl), He.free_ok X G ((Q3 c).d.fact 0 (f := .free "sorted") rfl), He.free_ok X G ((Q3 c).d.fact 1 (f := .free "isinstance") rfl), He.free_ok X G ((Q3 c).d.fact 2 (f := .free "enumerate") rfl), He.free_ok X G ((Q3 c).d.fact 3 (f := .free "repr") rfl), He.free_ok X G ((Q3 c).d.fact 4 (f := .free "str") rfl), He.free_ok X G ((Q3 c).d.fact 5 (f := .free "set") rfl), He.free_ok X G ((Q3 c).d.fact 6 (f := .free "bool") rfl), He.free_ok X G ((Q3 c).d.fact 7 (f := .free "ValueError") rfl)⟩
theorem c_err_BadWorld (c : Says K) : Err P w K mg base (He.ga K "BadWorld") "at" 1 := by
  obtain ⟨fd, F⟩ := (Q3 c).d.def_ 12 (d := d_err_BadWorld) rfl
  have F : FnP K "__init__" "BadWorld.__init__" s_err_BadWorld (He.ma K (He.ga K "BadWorld") "__init__") fd := F
  have o : OexC K (He.ga K "BadWorld") := ⟨oexB_ok ((Q0 c).b 8), He.eqO_ok ((Q0 c).b 9), of_decide_eq_true ((Q0 c).b 10), of_decide_eq_true ((Q0 c).b 11), ((Q0 c).b 12)⟩
  exact ⟨o, xfB_ok ((Q0 c).b 13), He.eqO_ok ((Q0 c).b 14), _, fd, He.eqO_ok ((Q0 c).b 15), of_decide_eq_true ((Q0 c).b 16), F.bindsN (fun _ _ _ _ _ _ us hl => match us, hl with | [_, _], _ => rfl), F.ok sc_err_BadWorld (fun vs H Q E h => by obtain ⟨_, _, rfl, _⟩ := h; rfl) fun cdv A outer s H vs Q E hr h => ⟨_, PSs.nox (pss_one (ps_ost (pv 0) (pv 1))), err_run o (He.eqO_ok ((Q0 c).b 14)) h⟩⟩
theorem c_err_BadLot (c : Says K) : Err P w K mg base (He.ga K "BadLot") "at" 1 := by
  obtain ⟨fd, F⟩ := (Q3 c).d.def_ 13 (d := d_err_BadLot) rfl
  have F : FnP K "__init__" "BadLot.__init__" s_err_BadLot (He.ma K (He.ga K "BadLot") "__init__") fd := F
  have o : OexC K (He.ga K "BadLot") := ⟨oexB_ok ((Q1 c).b 0), He.eqO_ok ((Q1 c).b 1), of_decide_eq_true ((Q1 c).b 2), of_decide_eq_true ((Q1 c).b 3), ((Q1 c).b 4)⟩
  exact ⟨o, xfB_ok ((Q1 c).b 5), He.eqO_ok ((Q1 c).b 6), _, fd, He.eqO_ok ((Q1 c).b 7), of_decide_eq_true ((Q1 c).b 8), F.bindsN (fun _ _ _ _ _ _ us hl => match us, hl with | [_, _], _ => rfl), F.ok sc_err_BadLot (fun vs H Q E h => by obtain ⟨_, _, rfl, _⟩ := h; rfl) fun cdv A outer s H vs Q E hr h => ⟨_, PSs.nox (pss_one (ps_ost (pv 0) (pv 1))), err_run o (He.eqO_ok ((Q1 c).b 6)) h⟩⟩
theorem c_err_NotInside (c : Says K) : Err P w K mg base (He.ga K "NotInside") "place" 1 := by
  obtain ⟨fd, F⟩ := (Q3 c).d.def_ 14 (d := d_err_NotInside) rfl
  have F : FnP K "__init__" "NotInside.__init__" s_err_NotInside (He.ma K (He.ga K "NotInside") "__init__") fd := F
  have o : OexC K (He.ga K "NotInside") := ⟨oexB_ok ((Q1 c).b 9), He.eqO_ok ((Q1 c).b 10), of_decide_eq_true ((Q1 c).b 11), of_decide_eq_true ((Q1 c).b 12), ((Q1 c).b 13)⟩
  exact ⟨o, xfB_ok ((Q1 c).b 14), He.eqO_ok ((Q1 c).b 15), _, fd, He.eqO_ok ((Q1 c).b 16), of_decide_eq_true ((Q1 c).b 17), F.bindsN (fun _ _ _ _ _ _ us hl => match us, hl with | [_, _], _ => rfl), F.ok sc_err_NotInside (fun vs H Q E h => by obtain ⟨_, _, rfl, _⟩ := h; rfl) fun cdv A outer s H vs Q E hr h => ⟨_, PSs.nox (pss_one (ps_ost (pv 0) (pv 1))), err_run o (He.eqO_ok ((Q1 c).b 15)) h⟩⟩
theorem c_err_TooMany (c : Says K) : Err P w K mg base (He.ga K "TooMany") "size" 1 := by
  obtain ⟨fd, F⟩ := (Q3 c).d.def_ 15 (d := d_err_TooMany) rfl
  have F : FnP K "__init__" "TooMany.__init__" s_err_TooMany (He.ma K (He.ga K "TooMany") "__init__") fd := F
  have o : OexC K (He.ga K "TooMany") := ⟨oexB_ok ((Q1 c).b 18), He.eqO_ok ((Q1 c).b 19), of_decide_eq_true ((Q1 c).b 20), of_decide_eq_true ((Q1 c).b 21), ((Q1 c).b 22)⟩
  exact ⟨o, xfB_ok ((Q1 c).b 23), He.eqO_ok ((Q1 c).b 24), _, fd, He.eqO_ok ((Q1 c).b 25), of_decide_eq_true ((Q1 c).b 26), F.bindsN (fun _ _ _ _ _ _ us hl => match us, hl with | [_, _], _ => rfl), F.ok sc_err_TooMany (fun vs H Q E h => by obtain ⟨_, _, rfl, _⟩ := h; rfl) fun cdv A outer s H vs Q E hr h => ⟨_, PSs.nox (pss_one (ps_ost (pv 0) (pv 1))), err_run o (He.eqO_ok ((Q1 c).b 24)) h⟩⟩
theorem rz_BadNumber (c : Says K) (X : K.In h) (G : h.Ns mainGlobals mg) : RzOk P w K mg base ((ad K).er "BadNumber") ((ad K).ec "BadNumber") "BadNumber" "name" := fun z => by
  rw [show (ad K).er "BadNumber" = false from er0_BadNumber] at z
  cases z
theorem rz_BadLot (c : Says K) (X : K.In h) (G : h.Ns mainGlobals mg) : RzOk P w K mg base ((ad K).er "BadLot") ((ad K).ec "BadLot") "BadLot" "at" := fun _ => ⟨c_err_BadLot c, He.glo_ok X G ((Q2 c).d.fact 7 (f := .glo "BadLot") rfl)⟩
theorem rz_BadNet (c : Says K) (X : K.In h) (G : h.Ns mainGlobals mg) : RzOk P w K mg base ((ad K).er "BadNet") ((ad K).ec "BadNet") "BadNet" "at" := fun z => by
  rw [show (ad K).er "BadNet" = false from er0_BadNet] at z
  cases z
theorem rz_BadWorld (c : Says K) (X : K.In h) (G : h.Ns mainGlobals mg) : RzOk P w K mg base ((ad K).er "BadWorld") ((ad K).ec "BadWorld") "BadWorld" "at" := fun _ => ⟨c_err_BadWorld c, He.glo_ok X G ((Q2 c).d.fact 6 (f := .glo "BadWorld") rfl)⟩
theorem rz_NotInside (c : Says K) (X : K.In h) (G : h.Ns mainGlobals mg) : RzOk P w K mg base ((ad K).er "NotInside") ((ad K).ec "NotInside") "NotInside" "place" := fun _ => ⟨c_err_NotInside c, He.glo_ok X G ((Q2 c).d.fact 8 (f := .glo "NotInside") rfl)⟩
theorem rz_Meeting (c : Says K) (X : K.In h) (G : h.Ns mainGlobals mg) : RzOk P w K mg base ((ad K).er "Meeting") ((ad K).ec "Meeting") "Meeting" "place" := fun z => by
  rw [show (ad K).er "Meeting" = false from er0_Meeting] at z
  cases z
theorem rz_TooMany (c : Says K) (X : K.In h) (G : h.Ns mainGlobals mg) : RzOk P w K mg base ((ad K).er "TooMany") ((ad K).ec "TooMany") "TooMany" "size" := fun _ => ⟨c_err_TooMany c, He.glo_ok X G ((Q2 c).d.fact 9 (f := .glo "TooMany") rfl)⟩
theorem rz_NotTwoway (c : Says K) (X : K.In h) (G : h.Ns mainGlobals mg) : RzOk0 K mg ((ad K).er "NotTwoway") ((ad K).ec "NotTwoway") "NotTwoway" := fun _ => ⟨(He.exc_ok ((Q3 c).d.fact 11 (f := .exc "NotTwoway") rfl)).1, (He.exc_ok ((Q3 c).d.fact 11 (f := .exc "NotTwoway") rfl)).2.1, (He.exc_ok ((Q3 c).d.fact 11 (f := .exc "NotTwoway") rfl)).2.2.1, (He.exc_ok ((Q3 c).d.fact 11 (f := .exc "NotTwoway") rfl)).2.2.2, He.glo_ok X G ((Q2 c).d.fact 10 (f := .glo "NotTwoway") rfl)⟩
theorem xf_BadWorld (c : Says K) : XfOk K ((ad K).ec "BadWorld") "at" := ⟨xfB_ok ((Q0 c).b 13), He.eqO_ok ((Q0 c).b 14)⟩
theorem xf_BadLot (c : Says K) : XfOk K ((ad K).ec "BadLot") "at" := ⟨xfB_ok ((Q1 c).b 5), He.eqO_ok ((Q1 c).b 6)⟩
theorem xf_NotInside (c : Says K) : XfOk K ((ad K).ec "NotInside") "place" := ⟨xfB_ok ((Q1 c).b 14), He.eqO_ok ((Q1 c).b 15)⟩
theorem xf_TooMany (c : Says K) : XfOk K ((ad K).ec "TooMany") "size" := ⟨xfB_ok ((Q1 c).b 23), He.eqO_ok ((Q1 c).b 24)⟩
noncomputable def offT (H : Hp) : Hp := fun b => @ite _ (Tb.tb b) (Classical.propDecidable _) none (H b)
theorem offT_in {H : Hp} {b : Addr} (h : Tb.tb b) : offT H b = none := if_pos h
theorem offT_out {H : Hp} {b : Addr} (h : ¬ Tb.tb b) : offT H b = H b := if_neg h
theorem offT_i0 {H : Hp} (tb : ∀ b, Tb.tb b → Tb.ok H b) : I0 (offT H) H := ⟨fun b o e => by
  by_cases c : Tb.tb b
  · rw [offT_in c] at e; cases e
  · rw [offT_out c] at e; exact e, fun b m => ⟨offT_in m, tb b m⟩⟩
theorem offT_sq {H : Hp} {a : Addr} {xs : List V} (tb : ∀ b, Tb.tb b → Tb.ok H b) (h : SqL K H a xs) : SqL K (offT H) a xs := h.imp (fun h => by
  have nt : ¬ Tb.tb a := fun m => by
    rcases h with h | ⟨o, h⟩
    · obtain ⟨ps, e⟩ := Tb.nol (tb a m) h; cases e
    · obtain ⟨ps, e⟩ := Tb.nol (tb a m) h; cases e
  rcases h with h | ⟨o, h⟩
  · exact .inl (by rw [offT_out nt]; exact h)
  · exact .inr ⟨o, by rw [offT_out nt]; exact h⟩) id
theorem draws_run {vs : List V} {H : Hp} {Q : VK} {E : XK} {a : Ad} (h : spDraws K vs H Q E) : t_law_draws K a { nx := fun _ H' => Q .non H', rt := Q } (L2.start N_law_draws vs) H := by
  obtain ⟨a0, ns, rfl, hS, hl, tb, k⟩ := h
  have I : Iv ⟨offT H, H, fun _ => False⟩ (offT H) H := Iv.pure (offT_i0 tb)
  refine sd_draws hl (offT H) H _ _ ⟨I, rfl, fun i s e => ?_, fun i j s t b hij h1 h2 h3 h4 => ?_⟩ (fun _ _ _ _ q => q.elim) (fun v d G' H' q _ J r => ?_) (fun _ _ _ _ q => q.elim) (fun _ _ _ _ q => q.elim)
  · rcases i with _ | i
    · cases e; exact ⟨a0, rfl, offT_sq tb hS⟩
    · match i, e with
      | 0, e => cases e; trivial
      | 1, e => cases e; trivial
      | 2, e => cases e; trivial
      | 3, e => cases e; trivial
      | 4, e => cases e; trivial
      | _ + 5, e => cases e
  · match i, h1 with
    | 0, h1 => cases h1; exact h3.elim
    | 1, h1 => cases h1; exact h3.elim
    | 2, h1 => cases h1; exact h3.elim
    | 3, h1 => cases h1; exact h3.elim
    | 4, h1 => cases h1; exact h3.elim
    | 5, h1 => cases h1; exact h3.elim
    | _ + 6, h1 => cases h1
  · obtain ⟨l, rfl, hz⟩ := q
    obtain ⟨p, xs, rfl, hp, rs⟩ := r.l
    cases rs with
    | cons r1 rs =>
      rw [r1.i, rs.ints] at hp
      exact k p H' ⟨1, l, J.gh _ _ hp, Int.le_refl 1, hz⟩ fun b m => (J.i0.tb b m).2
theorem ok_law_take {f : Addr} {fd : FuncData} (T : Blt mg) (F : FnP K "_law_take" "_law_take" s_law_take f fd) : FnOk P w K mg base CX0 1 f fd ["_law_draws_here", "_law_many"] (SpD K preTake postTake) := by
  refine F.ok sc_law_take (fun vs H Q E h => spD_len (n := 2) (fun ds ⟨m, e, _⟩ => by rw [e]; rfl) h) fun cdv A outer s H vs Q E hr h => ⟨t_law_take K (ad K), PSs.nox (der_law_take T hr), ?_⟩
  obtain ⟨G, a, ws, ds, rfl, eg, ga, ⟨n, ns, hH, hn, hz⟩, r, ⟨m, rfl, hm⟩, k⟩ := h
  cases r with
  | cons r rs =>
  cases rs
  obtain rfl := r.i
  refine ⟨.ref a, rfl, a, _, 0, .int n, rfl, rfl, sq_of hH, atI_nat (j := 0) (xs := (.int n :: ns.map V.int)) rfl, ?_⟩
  refine ⟨.int n, rfl, .ref a, rfl, a, _, rfl, .inl (sq_of hH), n, _, rfl, rfl, _, rfl, ?_⟩
  have done : ∀ r : Int, 0 ≤ r → r < m → postTake [.int m] (.int r) := fun r h1 h2 m' e => by cases e; exact ⟨r, rfl, h1, h2⟩
  refine ite2 (fun c => ?_) (fun c => ?_)
  · exact k (.int 0) (.int 0) G H (done 0 (Int.le_refl _) hm) (Iv.draw eg ga ⟨n, ns, hH, hn, hz⟩) (.int 0)
  · have c1 : ¬ (((.int n :: ns.map V.int : List V).length : Int) ≤ n) := fun q => c (decide_eq_true q)
    rw [List.length_cons, List.length_map] at c1
    obtain ⟨j, rfl⟩ : ∃ j : Nat, n = (j : Int) + 1 := ⟨(n - 1).toNat, by omega⟩
    have hj : j < ns.length := by omega
    refine ⟨_, rfl, _, _, rfl, rfl, .ref a, rfl, a, _, 0, 0, rfl, rfl, hH, ixN_nat (j := 0) (Nat.succ_pos _), ?_⟩
    have hH2 : upd H a (.lst (.int ((j : Int) + 1 + 1) :: ns.map V.int)) a = some (.lst (.int ((j : Int) + 1 + 1) :: ns.map V.int)) := upd_same
    have hat : atI (.int ((j : Int) + 1 + 1) :: ns.map V.int : List V) ((j : Int) + 1) = some (.int ns[j]) := by
      have e : ((j : Int) + 1) = ((j + 1 : Nat) : Int) := by omega
      rw [e]
      refine atI_nat ?_
      rw [List.getElem?_cons_succ, List.getElem?_map, List.getElem?_eq_getElem hj]
      rfl
    refine ⟨.ref a, rfl, .int ((j : Int) + 1), rfl, a, _, _, _, rfl, rfl, sq_of hH2, hat, .inl ⟨ns[j], rfl, .int m, rfl, ns[j], m, rfl, rfl, hm, ?_⟩⟩
    have na : ¬ Tb.tb a := fun m => by obtain ⟨ps, e⟩ := Tb.nol (eg.tb a m).2 hH; cases e
    refine k _ (.int (ns[j] % m)) G _ (done _ (Int.emod_nonneg _ (by omega)) (Int.emod_lt_of_pos _ hm)) ⟨fun b o e => ?_, Ex.refl G, fun b o e nb => ?_, fun _ _ z => z, fun b q => ?_⟩ (.int _)
    · have hb : b ≠ a := fun q => by rw [q, ga] at e; cases e
      show upd H a _ b = some o
      rw [upd_ne hb]
      exact eg.ex b o e
    · show upd H a _ b = some o
      rw [upd_ne (show b ≠ a from fun z => nb (.inl z))]
      exact e
    · rcases id q with z | z
      · have z : b = a := z
        subst z
        exact ⟨ga, q, fun _ => ⟨(j : Int) + 1 + 1, ns, hH2, by omega, hz⟩, fun m => absurd m na⟩
      · have ne : b ≠ a := fun y => na (y ▸ z)
        exact ⟨(eg.tb b z).1, q, fun y => absurd y ne, fun _ => Tb.keep (fun c o e x => by
          show upd H a _ c = some o
          have hc : c ≠ a := fun y => by
            rw [y, hH] at e
            cases e
            exact ll_lst x
          rw [upd_ne hc]
          exact e) (eg.tb b z).2⟩

theorem c_law_take (c : Says K) (X : K.In h) (G : h.Ns mainGlobals mg) (TB : LamX.TabB base mg (codeAd K "by_size") PT) : Cal P w K mg base "_law_take" 1 ["_law_draws_here", "_law_many"] (SpTake K) := by
  obtain ⟨fd, F⟩ := (Q0 c).d.def_ 10 (d := d_law_take) rfl
  have F : FnP K "_law_take" "_law_take" s_law_take (He.ga K "_law_take") fd := F
  exact ⟨_, fd, He.glo_ok X G ((Q0 c).d.fact 10 (f := .glo "_law_take") rfl), F.kp, F.bindsN (fun _ _ _ _ _ _ us hl => match us, hl with | [_, _], _ => rfl), ok_law_take (bl c X G) F⟩
theorem c_law_draws (c : Says K) (X : K.In h) (G : h.Ns mainGlobals mg) (TB : LamX.TabB base mg (codeAd K "by_size") PT) : Cal P w K mg base "_law_draws" 1 ["_law_script"] (spDraws K) := by
  obtain ⟨fd, F⟩ := (Q0 c).d.def_ 9 (d := d_law_draws) rfl
  have F : FnP K "_law_draws" "_law_draws" s_law_draws (He.ga K "_law_draws") fd := F
  exact ⟨_, fd, He.glo_ok X G ((Q0 c).d.fact 9 (f := .glo "_law_draws") rfl), F.kp, F.bindsN (fun _ _ _ _ _ _ us hl => match us, hl with | [_], _ => rfl), F.ok sc_law_draws (fun vs H Q E h => by obtain ⟨_, _, rfl, _⟩ := h; rfl) fun cdv A outer s H vs Q E hr h => ⟨t_law_draws K (ad K), PSs.nox (der_law_draws (bl c X G) hr), draws_run h⟩⟩
theorem c_Oneway_many (c : Says K) (X : K.In h) (G : h.Ns mainGlobals mg) (TB : LamX.TabB base mg (codeAd K "by_size") PT) : CalP P w K mg base (He.ga K "Oneway") "many" 1 (SpW K 1 (W_Net_many K (ad K))) := by
  obtain ⟨fd, F⟩ := (Q0 c).p 0 (d := p_Oneway_many) rfl
  have F : FnP K "many" "Net.many" s_Net_many (propAt "Oneway" "many" K) fd := F
  exact ⟨(nt_Oneway c).cl, _, _, fd, propB_ok (fun b hb => by
    simp only [propB, List.mem_cons, List.not_mem_nil, or_false] at hb
    rcases hb with rfl | rfl | rfl | rfl
    · exact ((Q0 c).b 0)
    · exact ((Q0 c).b 1)
    · exact ((Q0 c).b 2)
    · exact ((Q0 c).b 3)), F.bindsN (fun _ _ _ _ _ _ us hl => match us, hl with | [_], _ => rfl), okW F sc_Net_many (fun cdv A outer s H E hr => der_Net_many (bl c X G) hr) (by decide)⟩
theorem c_Twoway_many (c : Says K) (X : K.In h) (G : h.Ns mainGlobals mg) (TB : LamX.TabB base mg (codeAd K "by_size") PT) : CalP P w K mg base (He.ga K "Twoway") "many" 1 (SpW K 1 (W_Net_many K (ad K))) := by
  obtain ⟨fd, F⟩ := (Q0 c).p 1 (d := p_Twoway_many) rfl
  have F : FnP K "many" "Net.many" s_Net_many (propAt "Twoway" "many" K) fd := F
  exact ⟨(nt_Twoway c).cl, _, _, fd, propB_ok (fun b hb => by
    simp only [propB, List.mem_cons, List.not_mem_nil, or_false] at hb
    rcases hb with rfl | rfl | rfl | rfl
    · exact ((Q0 c).b 4)
    · exact ((Q0 c).b 5)
    · exact ((Q0 c).b 6)
    · exact ((Q0 c).b 7)), F.bindsN (fun _ _ _ _ _ _ us hl => match us, hl with | [_], _ => rfl), okW F sc_Net_many (fun cdv A outer s H E hr => der_Net_many (bl c X G) hr) (by decide)⟩
theorem r_many (c : Says K) (X : K.In h) (G : h.Ns mainGlobals mg) (TB : LamX.TabB base mg (codeAd K "by_size") PT) : ∀ C sp, R_many K (ad K) C sp → CalP P w K mg base C "many" 1 sp := fun C sp z => by
  rcases z with ⟨rfl, rfl⟩ | ⟨rfl, rfl⟩
  · exact c_Oneway_many c X G TB
  · exact c_Twoway_many c X G TB
theorem c_is_integer (c : Says K) (X : K.In h) (G : h.Ns mainGlobals mg) (TB : LamX.TabB base mg (codeAd K "by_size") PT) : CalX P w K mg base "is_integer" 1 ["value"] (SpWX K 1 (W_is_integer K (ad K))) := by
  obtain ⟨fd, F⟩ := (Q0 c).d.def_ 0 (d := d_is_integer) rfl
  have F : FnP K "is_integer" "is_integer" s_is_integer (He.ga K "is_integer") fd := F
  exact ⟨⟨_, fd, He.glo_ok X G ((Q0 c).d.fact 0 (f := .glo "is_integer") rfl), F.kp, F.bindsN (fun _ _ _ _ _ _ us hl => match us, hl with | [_], _ => rfl), okWX F sc_is_integer (fun cdv A outer s H E hr => der_is_integer (bl c X G) hr) (by decide)⟩⟩
theorem c_is_row (c : Says K) (X : K.In h) (G : h.Ns mainGlobals mg) (TB : LamX.TabB base mg (codeAd K "by_size") PT) : CalX P w K mg base "is_row" 1 ["value"] (SpWX K 1 (W_is_row K (ad K))) := by
  obtain ⟨fd, F⟩ := (Q0 c).d.def_ 1 (d := d_is_row) rfl
  have F : FnP K "is_row" "is_row" s_is_row (He.ga K "is_row") fd := F
  exact ⟨⟨_, fd, He.glo_ok X G ((Q0 c).d.fact 1 (f := .glo "is_row") rfl), F.kp, F.bindsN (fun _ _ _ _ _ _ us hl => match us, hl with | [_], _ => rfl), okWX F sc_is_row (fun cdv A outer s H E hr => der_is_row (bl c X G) hr) (by decide)⟩⟩
theorem c_first_wrong (c : Says K) (X : K.In h) (G : h.Ns mainGlobals mg) (TB : LamX.TabB base mg (codeAd K "by_size") PT) : CalX P w K mg base "first_wrong" 1 ["flags"] (SpWX K 1 (W_first_wrong K (ad K))) := by
  obtain ⟨fd, F⟩ := (Q0 c).d.def_ 2 (d := d_first_wrong) rfl
  have F : FnP K "first_wrong" "first_wrong" s_first_wrong (He.ga K "first_wrong") fd := F
  exact ⟨⟨_, fd, He.glo_ok X G ((Q0 c).d.fact 2 (f := .glo "first_wrong") rfl), F.kp, F.bindsN (fun _ _ _ _ _ _ us hl => match us, hl with | [_], _ => rfl), okWX F sc_first_wrong (fun cdv A outer s H E hr => der_first_wrong (bl c X G) hr) (by decide)⟩⟩
theorem c_both (c : Says K) (X : K.In h) (G : h.Ns mainGlobals mg) (TB : LamX.TabB base mg (codeAd K "by_size") PT) : CalX P w K mg base "both" 1 ["one", "other"] (SpWX K 2 (W_both K (ad K))) := by
  obtain ⟨fd, F⟩ := (Q0 c).d.def_ 3 (d := d_both) rfl
  have F : FnP K "both" "both" s_both (He.ga K "both") fd := F
  exact ⟨⟨_, fd, He.glo_ok X G ((Q0 c).d.fact 3 (f := .glo "both") rfl), F.kp, F.bindsN (fun _ _ _ _ _ _ us hl => match us, hl with | [_, _], _ => rfl), okWX F sc_both (fun cdv A outer s H E hr => der_both (bl c X G) hr) (by decide)⟩⟩
theorem c_common (c : Says K) (X : K.In h) (G : h.Ns mainGlobals mg) (TB : LamX.TabB base mg (codeAd K "by_size") PT) : CalX P w K mg base "common" 1 ["one", "other"] (SpWX K 2 (W_common K (ad K))) := by
  obtain ⟨fd, F⟩ := (Q0 c).d.def_ 4 (d := d_common) rfl
  have F : FnP K "common" "common" s_common (He.ga K "common") fd := F
  exact ⟨⟨_, fd, He.glo_ok X G ((Q0 c).d.fact 4 (f := .glo "common") rfl), F.kp, F.bindsN (fun _ _ _ _ _ _ us hl => match us, hl with | [_, _], _ => rfl), okWX F sc_common (fun cdv A outer s H E hr => der_common (bl c X G) hr) (by decide)⟩⟩
theorem c_minus (c : Says K) (X : K.In h) (G : h.Ns mainGlobals mg) (TB : LamX.TabB base mg (codeAd K "by_size") PT) : CalX P w K mg base "minus" 1 ["one", "other"] (SpWX K 2 (W_minus K (ad K))) := by
  obtain ⟨fd, F⟩ := (Q0 c).d.def_ 5 (d := d_minus) rfl
  have F : FnP K "minus" "minus" s_minus (He.ga K "minus") fd := F
  exact ⟨⟨_, fd, He.glo_ok X G ((Q0 c).d.fact 5 (f := .glo "minus") rfl), F.kp, F.bindsN (fun _ _ _ _ _ _ us hl => match us, hl with | [_, _], _ => rfl), okWX F sc_minus (fun cdv A outer s H E hr => der_minus (bl c X G) hr) (by decide)⟩⟩
theorem c_rest (c : Says K) (X : K.In h) (G : h.Ns mainGlobals mg) (TB : LamX.TabB base mg (codeAd K "by_size") PT) : CalX P w K mg base "rest" 1 ["size", "lot"] (SpWX K 2 (W_rest K (ad K))) := by
  obtain ⟨fd, F⟩ := (Q0 c).d.def_ 6 (d := d_rest) rfl
  have F : FnP K "rest" "rest" s_rest (He.ga K "rest") fd := F
  exact ⟨⟨_, fd, He.glo_ok X G ((Q0 c).d.fact 6 (f := .glo "rest") rfl), F.kp, F.bindsN (fun _ _ _ _ _ _ us hl => match us, hl with | [_, _], _ => rfl), okWX F sc_rest (fun cdv A outer s H E hr => der_rest (bl c X G) hr) (by decide)⟩⟩
theorem c_by_size (c : Says K) (X : K.In h) (G : h.Ns mainGlobals mg) (TB : LamX.TabB base mg (codeAd K "by_size") PT) : CalX P w K mg base "by_size" 1 ["lots"] (SpWX K 1 (W_by_size K (ad K))) := by
  obtain ⟨fd, F⟩ := (Q0 c).d.def_ 7 (d := d_by_size) rfl
  have F : FnP K "by_size" "by_size" s_by_size (He.ga K "by_size") fd := F
  exact ⟨⟨_, fd, He.glo_ok X G ((Q0 c).d.fact 7 (f := .glo "by_size") rfl), F.kp, F.bindsN (fun _ _ _ _ _ _ us hl => match us, hl with | [_], _ => rfl), okWXC F (funD_code F ((Q3 c).b 14)) sc_by_size (fun A outer s H E hr => der_by_size (bl c X G) TB hr) (by decide)⟩⟩
theorem c_amount (c : Says K) (X : K.In h) (G : h.Ns mainGlobals mg) (TB : LamX.TabB base mg (codeAd K "by_size") PT) : CalX P w K mg base "amount" 1 ["world", "ties"] (SpWX K 2 (W_amount K (ad K))) := by
  obtain ⟨fd, F⟩ := (Q0 c).d.def_ 8 (d := d_amount) rfl
  have F : FnP K "amount" "amount" s_amount (He.ga K "amount") fd := F
  exact ⟨⟨_, fd, He.glo_ok X G ((Q0 c).d.fact 8 (f := .glo "amount") rfl), F.kp, F.bindsN (fun _ _ _ _ _ _ us hl => match us, hl with | [_, _], _ => rfl), okWX F sc_amount (fun cdv A outer s H E hr => der_amount (bl c X G) hr) (by decide)⟩⟩
theorem c_law_int (c : Says K) (X : K.In h) (G : h.Ns mainGlobals mg) (TB : LamX.TabB base mg (codeAd K "by_size") PT) : Cal P w K mg base "_law_int" 1 ["_law_value"] (SpW K 1 (W_law_int K (ad K))) := by
  obtain ⟨fd, F⟩ := (Q0 c).d.def_ 11 (d := d_law_int) rfl
  have F : FnP K "_law_int" "_law_int" s_law_int (He.ga K "_law_int") fd := F
  exact ⟨_, fd, He.glo_ok X G ((Q0 c).d.fact 11 (f := .glo "_law_int") rfl), F.kp, F.bindsN (fun _ _ _ _ _ _ us hl => match us, hl with | [_], _ => rfl), okW F sc_law_int (fun cdv A outer s H E hr => der_law_int (bl c X G) hr) (by decide)⟩
theorem c_law_rest (c : Says K) (X : K.In h) (G : h.Ns mainGlobals mg) (TB : LamX.TabB base mg (codeAd K "by_size") PT) : Cal P w K mg base "_law_rest" 1 ["_law_size", "_law_lot_here"] (SpW K 2 (W_law_rest K (ad K))) := by
  obtain ⟨fd, F⟩ := (Q0 c).d.def_ 12 (d := d_law_rest) rfl
  have F : FnP K "_law_rest" "_law_rest" s_law_rest (He.ga K "_law_rest") fd := F
  exact ⟨_, fd, He.glo_ok X G ((Q0 c).d.fact 12 (f := .glo "_law_rest") rfl), F.kp, F.bindsN (fun _ _ _ _ _ _ us hl => match us, hl with | [_, _], _ => rfl), okW F sc_law_rest (fun cdv A outer s H E hr => der_law_rest (bl c X G) hr) (by decide)⟩
theorem c_law_amount_between (c : Says K) (X : K.In h) (G : h.Ns mainGlobals mg) (TB : LamX.TabB base mg (codeAd K "by_size") PT) : Cal P w K mg base "_law_amount_between" 1 ["_law_ties", "_law_world_here", "_law_one", "_law_other"] (SpW K 4 (W_law_amount_between K (ad K))) := by
  obtain ⟨fd, F⟩ := (Q0 c).d.def_ 13 (d := d_law_amount_between) rfl
  have F : FnP K "_law_amount_between" "_law_amount_between" s_law_amount_between (He.ga K "_law_amount_between") fd := F
  exact ⟨_, fd, He.glo_ok X G ((Q0 c).d.fact 13 (f := .glo "_law_amount_between") rfl), F.kp, F.bindsN (fun _ _ _ _ _ _ us hl => match us, hl with | [_, _, _, _], _ => rfl), okW F sc_law_amount_between (fun cdv A outer s H E hr => der_law_amount_between (bl c X G) hr) (by decide)⟩
theorem c_is_index (c : Says K) (X : K.In h) (G : h.Ns mainGlobals mg) (TB : LamX.TabB base mg (codeAd K "by_size") PT) : CalX P w K mg base "is_index" 2 ["value", "limit"] (SpWX K 2 (W_is_index K (ad K))) := by
  obtain ⟨fd, F⟩ := (Q0 c).d.def_ 14 (d := d_is_index) rfl
  have F : FnP K "is_index" "is_index" s_is_index (He.ga K "is_index") fd := F
  exact ⟨⟨_, fd, He.glo_ok X G ((Q0 c).d.fact 14 (f := .glo "is_index") rfl), F.kp, F.bindsN (fun _ _ _ _ _ _ us hl => match us, hl with | [_, _], _ => rfl), okWX F sc_is_index (fun cdv A outer s H E hr => der_is_index (bl c X G) (c_is_integer c X G TB) hr) (by decide)⟩⟩
theorem c_wrong_member (c : Says K) (X : K.In h) (G : h.Ns mainGlobals mg) (TB : LamX.TabB base mg (codeAd K "by_size") PT) : CalX P w K mg base "wrong_member" 2 ["limit", "members"] (SpWX K 2 (W_wrong_member K (ad K))) := by
  obtain ⟨fd, F⟩ := (Q0 c).d.def_ 15 (d := d_wrong_member) rfl
  have F : FnP K "wrong_member" "wrong_member" s_wrong_member (He.ga K "wrong_member") fd := F
  exact ⟨⟨_, fd, He.glo_ok X G ((Q0 c).d.fact 15 (f := .glo "wrong_member") rfl), F.kp, F.bindsN (fun _ _ _ _ _ _ us hl => match us, hl with | [_, _], _ => rfl), okWX F sc_wrong_member (fun cdv A outer s H E hr => der_wrong_member (bl c X G) (c_is_row c X G TB) (c_is_integer c X G TB) hr) (by decide)⟩⟩
theorem c_lots_inside (c : Says K) (X : K.In h) (G : h.Ns mainGlobals mg) (TB : LamX.TabB base mg (codeAd K "by_size") PT) : CalX P w K mg base "lots_inside" 2 ["inner", "outer"] (SpWX K 2 (W_lots_inside K (ad K))) := by
  obtain ⟨fd, F⟩ := (Q0 c).d.def_ 16 (d := d_lots_inside) rfl
  have F : FnP K "lots_inside" "lots_inside" s_lots_inside (He.ga K "lots_inside") fd := F
  exact ⟨⟨_, fd, He.glo_ok X G ((Q0 c).d.fact 16 (f := .glo "lots_inside") rfl), F.kp, F.bindsN (fun _ _ _ _ _ _ us hl => match us, hl with | [_, _], _ => rfl), okWX F sc_lots_inside (fun cdv A outer s H E hr => der_lots_inside (bl c X G) (c_minus c X G TB) (c_both c X G TB) (c_by_size c X G TB) hr) (by decide)⟩⟩
theorem c_law_lot_ok (c : Says K) (X : K.In h) (G : h.Ns mainGlobals mg) (TB : LamX.TabB base mg (codeAd K "by_size") PT) : Cal P w K mg base "_law_lot_ok" 2 ["_law_value", "_law_size"] (SpW K 2 (W_law_lot_ok K (ad K))) := by
  obtain ⟨fd, F⟩ := (Q0 c).d.def_ 17 (d := d_law_lot_ok) rfl
  have F : FnP K "_law_lot_ok" "_law_lot_ok" s_law_lot_ok (He.ga K "_law_lot_ok") fd := F
  exact ⟨_, fd, He.glo_ok X G ((Q0 c).d.fact 17 (f := .glo "_law_lot_ok") rfl), F.kp, F.bindsN (fun _ _ _ _ _ _ us hl => match us, hl with | [_, _], _ => rfl), okW F sc_law_lot_ok (fun cdv A outer s H E hr => der_law_lot_ok (bl c X G) (c_law_int c X G TB) hr) (by decide)⟩
theorem c_law_told_net (c : Says K) (X : K.In h) (G : h.Ns mainGlobals mg) (TB : LamX.TabB base mg (codeAd K "by_size") PT) : Cal P w K mg base "_law_told_net" 2 ["_law_draws_here"] (SpWD K 0 (W_law_told_net K (ad K))) := by
  obtain ⟨fd, F⟩ := (Q1 c).d.def_ 0 (d := d_law_told_net) rfl
  have F : FnP K "_law_told_net" "_law_told_net" s_law_told_net (He.ga K "_law_told_net") fd := F
  exact ⟨_, fd, He.glo_ok X G ((Q0 c).d.fact 18 (f := .glo "_law_told_net") rfl), F.kp, F.bindsN (fun _ _ _ _ _ _ us hl => match us, hl with | [_], _ => rfl), okWD F sc_law_told_net (fun cdv A outer s H E hr => der_law_told_net (bl c X G) (c_law_take c X G TB) hr) rfl (by decide)⟩
theorem c_law_free_ties (c : Says K) (X : K.In h) (G : h.Ns mainGlobals mg) (TB : LamX.TabB base mg (codeAd K "by_size") PT) : Cal P w K mg base "_law_free_ties" 2 ["_law_draws_here", "_law_size", "_law_many"] (SpWDL K 2 (W_law_free_ties K (ad K))) := by
  obtain ⟨fd, F⟩ := (Q1 c).d.def_ 1 (d := d_law_free_ties) rfl
  have F : FnP K "_law_free_ties" "_law_free_ties" s_law_free_ties (He.ga K "_law_free_ties") fd := F
  exact ⟨_, fd, He.glo_ok X G ((Q0 c).d.fact 19 (f := .glo "_law_free_ties") rfl), F.kp, F.bindsN (fun _ _ _ _ _ _ us hl => match us, hl with | [_, _, _], _ => rfl), okWDL (t0 := t_law_free_ties K (ad K)) (t := t0_law_free_ties K (ad K)) (i := i_law_free_ties) F sc_law_free_ties (fun cdv A outer s H E hr => der_law_free_ties (bl c X G) (c_law_take c X G TB) hr) (fun D σ H => rfl) rfl (by decide)⟩
theorem c_law_kind (c : Says K) (X : K.In h) (G : h.Ns mainGlobals mg) (TB : LamX.TabB base mg (codeAd K "by_size") PT) : Cal P w K mg base "_law_kind" 2 ["_law_draws_here"] (SpWD K 0 (W_law_kind K (ad K))) := by
  obtain ⟨fd, F⟩ := (Q1 c).d.def_ 2 (d := d_law_kind) rfl
  have F : FnP K "_law_kind" "_law_kind" s_law_kind (He.ga K "_law_kind") fd := F
  exact ⟨_, fd, He.glo_ok X G ((Q0 c).d.fact 20 (f := .glo "_law_kind") rfl), F.kp, F.bindsN (fun _ _ _ _ _ _ us hl => match us, hl with | [_], _ => rfl), okWD F sc_law_kind (fun cdv A outer s H E hr => der_law_kind (bl c X G) (c_law_take c X G TB) hr) rfl (by decide)⟩
theorem c_law_world (c : Says K) (X : K.In h) (G : h.Ns mainGlobals mg) (TB : LamX.TabB base mg (codeAd K "by_size") PT) : Cal P w K mg base "_law_world" 2 ["_law_draws_here", "_law_many"] (SpWD K 1 (W_law_world K (ad K))) := by
  obtain ⟨fd, F⟩ := (Q1 c).d.def_ 3 (d := d_law_world) rfl
  have F : FnP K "_law_world" "_law_world" s_law_world (He.ga K "_law_world") fd := F
  exact ⟨_, fd, He.glo_ok X G ((Q0 c).d.fact 21 (f := .glo "_law_world") rfl), F.kp, F.bindsN (fun _ _ _ _ _ _ us hl => match us, hl with | [_, _], _ => rfl), okWD F sc_law_world (fun cdv A outer s H E hr => der_law_world (bl c X G) (c_law_take c X G TB) hr) rfl (by decide)⟩
theorem c_law_lot (c : Says K) (X : K.In h) (G : h.Ns mainGlobals mg) (TB : LamX.TabB base mg (codeAd K "by_size") PT) : Cal P w K mg base "_law_lot" 2 ["_law_draws_here", "_law_size"] (SpWD K 1 (W_law_lot K (ad K))) := by
  obtain ⟨fd, F⟩ := (Q1 c).d.def_ 4 (d := d_law_lot) rfl
  have F : FnP K "_law_lot" "_law_lot" s_law_lot (He.ga K "_law_lot") fd := F
  exact ⟨_, fd, He.glo_ok X G ((Q0 c).d.fact 22 (f := .glo "_law_lot") rfl), F.kp, F.bindsN (fun _ _ _ _ _ _ us hl => match us, hl with | [_, _], _ => rfl), okWD F sc_law_lot (fun cdv A outer s H E hr => der_law_lot (bl c X G) (c_law_take c X G TB) hr) rfl (by decide)⟩
theorem c_law_handed (c : Says K) (X : K.In h) (G : h.Ns mainGlobals mg) (TB : LamX.TabB base mg (codeAd K "by_size") PT) : Cal P w K mg base "_law_handed" 2 ["_law_draws_here", "_law_lot_here"] (SpWD K 1 (W_law_handed K (ad K))) := by
  obtain ⟨fd, F⟩ := (Q1 c).d.def_ 5 (d := d_law_handed) rfl
  have F : FnP K "_law_handed" "_law_handed" s_law_handed (He.ga K "_law_handed") fd := F
  exact ⟨_, fd, He.glo_ok X G ((Q0 c).d.fact 23 (f := .glo "_law_handed") rfl), F.kp, F.bindsN (fun _ _ _ _ _ _ us hl => match us, hl with | [_, _], _ => rfl), okWD F sc_law_handed (fun cdv A outer s H E hr => der_law_handed (bl c X G) (c_law_take c X G TB) hr) rfl (by decide)⟩
theorem c_law_bad_lot (c : Says K) (X : K.In h) (G : h.Ns mainGlobals mg) (TB : LamX.TabB base mg (codeAd K "by_size") PT) : Cal P w K mg base "_law_bad_lot" 2 ["_law_draws_here", "_law_good", "_law_size"] (SpWD K 2 (W_law_bad_lot K (ad K))) := by
  obtain ⟨fd, F⟩ := (Q1 c).d.def_ 6 (d := d_law_bad_lot) rfl
  have F : FnP K "_law_bad_lot" "_law_bad_lot" s_law_bad_lot (He.ga K "_law_bad_lot") fd := F
  exact ⟨_, fd, He.glo_ok X G ((Q0 c).d.fact 24 (f := .glo "_law_bad_lot") rfl), F.kp, F.bindsN (fun _ _ _ _ _ _ us hl => match us, hl with | [_, _, _], _ => rfl), okWD F sc_law_bad_lot (fun cdv A outer s H E hr => der_law_bad_lot (bl c X G) (c_law_take c X G TB) hr) rfl (by decide)⟩
theorem c_law_bad_world (c : Says K) (X : K.In h) (G : h.Ns mainGlobals mg) (TB : LamX.TabB base mg (codeAd K "by_size") PT) : Cal P w K mg base "_law_bad_world" 2 ["_law_draws_here", "_law_world_here"] (SpWD K 1 (W_law_bad_world K (ad K))) := by
  obtain ⟨fd, F⟩ := (Q1 c).d.def_ 7 (d := d_law_bad_world) rfl
  have F : FnP K "_law_bad_world" "_law_bad_world" s_law_bad_world (He.ga K "_law_bad_world") fd := F
  exact ⟨_, fd, He.glo_ok X G ((Q0 c).d.fact 25 (f := .glo "_law_bad_world") rfl), F.kp, F.bindsN (fun _ _ _ _ _ _ us hl => match us, hl with | [_, _], _ => rfl), okWD F sc_law_bad_world (fun cdv A outer s H E hr => der_law_bad_world (bl c X G) (c_law_take c X G TB) hr) rfl (by decide)⟩
theorem c_is_pair (c : Says K) (X : K.In h) (G : h.Ns mainGlobals mg) (TB : LamX.TabB base mg (codeAd K "by_size") PT) : CalX P w K mg base "is_pair" 3 ["size", "value"] (SpWX K 2 (W_is_pair K (ad K))) := by
  obtain ⟨fd, F⟩ := (Q1 c).d.def_ 8 (d := d_is_pair) rfl
  have F : FnP K "is_pair" "is_pair" s_is_pair (He.ga K "is_pair") fd := F
  exact ⟨⟨_, fd, He.glo_ok X G ((Q0 c).d.fact 26 (f := .glo "is_pair") rfl), F.kp, F.bindsN (fun _ _ _ _ _ _ us hl => match us, hl with | [_, _], _ => rfl), okWX F sc_is_pair (fun cdv A outer s H E hr => der_is_pair (bl c X G) (c_is_row c X G TB) (c_is_index c X G TB) hr) (by decide)⟩⟩
theorem c_good_size (c : Says K) (X : K.In h) (G : h.Ns mainGlobals mg) (TB : LamX.TabB base mg (codeAd K "by_size") PT) : CalX P w K mg base "good_size" 3 ["size"] (SpWX K 1 (W_good_size K (ad K))) := by
  obtain ⟨tk_MOST_PLACES, g_MOST_PLACES⟩ := He.int_ok X G ((Q3 c).d.fact 8 (f := .int "MOST_PLACES" 12) rfl)
  obtain ⟨fd, F⟩ := (Q1 c).d.def_ 9 (d := d_good_size) rfl
  have F : FnP K "good_size" "good_size" s_good_size (He.ga K "good_size") fd := F
  exact ⟨⟨_, fd, He.glo_ok X G ((Q1 c).d.fact 0 (f := .glo "good_size") rfl), F.kp, F.bindsN (fun _ _ _ _ _ _ us hl => match us, hl with | [_], _ => rfl), okWX F sc_good_size (fun cdv A outer s H E hr => der_good_size (bl c X G) (c_is_integer c X G TB) (rz_BadNumber c X G) g_MOST_PLACES hr) (by decide)⟩⟩
theorem c_good_lot (c : Says K) (X : K.In h) (G : h.Ns mainGlobals mg) (TB : LamX.TabB base mg (codeAd K "by_size") PT) : CalX P w K mg base "good_lot" 3 ["size", "lot"] (SpWX K 2 (W_good_lot K (ad K))) := by
  obtain ⟨fd, F⟩ := (Q1 c).d.def_ 10 (d := d_good_lot) rfl
  have F : FnP K "good_lot" "good_lot" s_good_lot (He.ga K "good_lot") fd := F
  exact ⟨⟨_, fd, He.glo_ok X G ((Q1 c).d.fact 1 (f := .glo "good_lot") rfl), F.kp, F.bindsN (fun _ _ _ _ _ _ us hl => match us, hl with | [_, _], _ => rfl), okWX F sc_good_lot (fun cdv A outer s H E hr => der_good_lot (bl c X G) (c_wrong_member c X G TB) (rz_BadLot c X G) hr) (by decide)⟩⟩
theorem c_good_world (c : Says K) (X : K.In h) (G : h.Ns mainGlobals mg) (TB : LamX.TabB base mg (codeAd K "by_size") PT) : CalX P w K mg base "good_world" 3 ["many", "world"] (SpWX K 2 (W_good_world K (ad K))) := by
  obtain ⟨fd, F⟩ := (Q1 c).d.def_ 11 (d := d_good_world) rfl
  have F : FnP K "good_world" "good_world" s_good_world (He.ga K "good_world") fd := F
  exact ⟨⟨_, fd, He.glo_ok X G ((Q1 c).d.fact 2 (f := .glo "good_world") rfl), F.kp, F.bindsN (fun _ _ _ _ _ _ us hl => match us, hl with | [_, _], _ => rfl), okWX F sc_good_world (fun cdv A outer s H E hr => der_good_world (bl c X G) (c_is_row c X G TB) (c_is_integer c X G TB) (c_first_wrong c X G TB) (rz_BadWorld c X G) hr) (by decide)⟩⟩
theorem c_need_apart (c : Says K) (X : K.In h) (G : h.Ns mainGlobals mg) (TB : LamX.TabB base mg (codeAd K "by_size") PT) : CalX P w K mg base "need_apart" 3 ["one", "other"] (SpWX K 2 (W_need_apart K (ad K))) := by
  obtain ⟨fd, F⟩ := (Q1 c).d.def_ 12 (d := d_need_apart) rfl
  have F : FnP K "need_apart" "need_apart" s_need_apart (He.ga K "need_apart") fd := F
  exact ⟨⟨_, fd, He.glo_ok X G ((Q1 c).d.fact 3 (f := .glo "need_apart") rfl), F.kp, F.bindsN (fun _ _ _ _ _ _ us hl => match us, hl with | [_, _], _ => rfl), okWX F sc_need_apart (fun cdv A outer s H E hr => der_need_apart (bl c X G) (rz_Meeting c X G) hr) (by decide)⟩⟩
theorem c_need_inside (c : Says K) (X : K.In h) (G : h.Ns mainGlobals mg) (TB : LamX.TabB base mg (codeAd K "by_size") PT) : CalX P w K mg base "need_inside" 3 ["inner", "outer"] (SpWX K 2 (W_need_inside K (ad K))) := by
  obtain ⟨fd, F⟩ := (Q1 c).d.def_ 13 (d := d_need_inside) rfl
  have F : FnP K "need_inside" "need_inside" s_need_inside (He.ga K "need_inside") fd := F
  exact ⟨⟨_, fd, He.glo_ok X G ((Q1 c).d.fact 4 (f := .glo "need_inside") rfl), F.kp, F.bindsN (fun _ _ _ _ _ _ us hl => match us, hl with | [_, _], _ => rfl), okWX F sc_need_inside (fun cdv A outer s H E hr => der_need_inside (bl c X G) (rz_NotInside c X G) hr) (by decide)⟩⟩
theorem cd_need_listed (c : Says K) (X : K.In h) (G : h.Ns mainGlobals mg) (TB : LamX.TabB base mg (codeAd K "by_size") PT) : CalXd P w K mg base "need_listed" 3 ["size", "most"] [.int 8] (SpWX K 2 (W_need_listed K (ad K))) := by
  obtain ⟨fd, F⟩ := (Q1 c).d.def_ 14 (d := d_need_listed) rfl
  have F : FunD K "need_listed" "need_listed" (defArgs s_need_listed) (defBody s_need_listed) (defScope s_need_listed) [.int 8] [] (He.ga K "need_listed") fd := F
  obtain ⟨ds, h1, h2⟩ := F.binds1 (ps := ["size", "most"]) 1 0 (by simp) rfl (fun T kV doc pm an cdv ct us its hu hi => match us, its, hu, hi with | [_], [_], _, _ => ⟨_, rfl, rfl⟩)
  exact ⟨⟨_, fd, ds, He.glo_ok X G ((Q1 c).d.fact 5 (f := .glo "need_listed") rfl), F.kp, h2, h1, okWX2 F sc_need_listed (fun cdv A outer s H E hr => der_need_listed (bl c X G) (rz_TooMany c X G) hr) (by decide)⟩⟩
theorem c_check_twoway (c : Says K) (X : K.In h) (G : h.Ns mainGlobals mg) (TB : LamX.TabB base mg (codeAd K "by_size") PT) : CalX P w K mg base "check_twoway" 3 ["net"] (SpWX K 1 (W_check_twoway K (ad K))) := by
  obtain ⟨fd, F⟩ := (Q1 c).d.def_ 15 (d := d_check_twoway) rfl
  have F : FnP K "check_twoway" "check_twoway" s_check_twoway (He.ga K "check_twoway") fd := F
  exact ⟨⟨_, fd, He.glo_ok X G ((Q1 c).d.fact 6 (f := .glo "check_twoway") rfl), F.kp, F.bindsN (fun _ _ _ _ _ _ us hl => match us, hl with | [_], _ => rfl), okWX F sc_check_twoway (fun cdv A outer s H E hr => der_check_twoway (bl c X G) (rz_NotTwoway c X G) hr) (by decide)⟩⟩
theorem c_law_net (c : Says K) (X : K.In h) (G : h.Ns mainGlobals mg) (TB : LamX.TabB base mg (codeAd K "by_size") PT) : Cal P w K mg base "_law_net" 3 ["_law_draws_here", "_law_most"] (SpWD K 1 (W_law_net K (ad K))) := by
  obtain ⟨fd, F⟩ := (Q1 c).d.def_ 16 (d := d_law_net) rfl
  have F : FnP K "_law_net" "_law_net" s_law_net (He.ga K "_law_net") fd := F
  exact ⟨_, fd, He.glo_ok X G ((Q1 c).d.fact 7 (f := .glo "_law_net") rfl), F.kp, F.bindsN (fun _ _ _ _ _ _ us hl => match us, hl with | [_, _], _ => rfl), okWD F sc_law_net (fun cdv A outer s H E hr => der_law_net (bl c X G) (c_law_take c X G TB) (c_law_free_ties c X G TB) (c_law_told_net c X G TB) hr) rfl (by decide)⟩
theorem c_lot_of (c : Says K) (X : K.In h) (G : h.Ns mainGlobals mg) (TB : LamX.TabB base mg (codeAd K "by_size") PT) : CalX P w K mg base "lot_of" 4 ["size", "places"] (SpWX K 2 (W_lot_of K (ad K))) := by
  obtain ⟨fd, F⟩ := (Q1 c).d.def_ 17 (d := d_lot_of) rfl
  have F : FnP K "lot_of" "lot_of" s_lot_of (He.ga K "lot_of") fd := F
  exact ⟨⟨_, fd, He.glo_ok X G ((Q1 c).d.fact 8 (f := .glo "lot_of") rfl), F.kp, F.bindsN (fun _ _ _ _ _ _ us hl => match us, hl with | [_, _], _ => rfl), okWX F sc_lot_of (fun cdv A outer s H E hr => der_lot_of (bl c X G) (c_good_size c X G TB) (c_good_lot c X G TB) hr) (by decide)⟩⟩
theorem c_lots_between (c : Says K) (X : K.In h) (G : h.Ns mainGlobals mg) (TB : LamX.TabB base mg (codeAd K "by_size") PT) : CalGe P w K mg base "lots_between" 4 ["inner", "outer"] (SpGL K 2 (W_lots_between K (ad K))) := by
  obtain ⟨fd, F⟩ := (Q2 c).d.def_ 0 (d := d_lots_between) rfl
  have F : FnP K "lots_between" "lots_between" s_lots_between (He.ga K "lots_between") fd := F
  exact ⟨⟨_, fd, He.glo_ok X G ((Q1 c).d.fact 9 (f := .glo "lots_between") rfl), F.kp, F.bindsN (fun _ _ _ _ _ _ us hl => match us, hl with | [_, _], _ => rfl), okGL F sc_lots_between (fun cdv A outer s H E pn hr => der_lots_between (bl c X G) (c_good_lot c X G TB) (c_need_inside c X G TB) (c_lots_inside c X G TB) (cd_need_listed c X G TB) hr) (by decide)⟩⟩
theorem c_corners (c : Says K) (X : K.In h) (G : h.Ns mainGlobals mg) (TB : LamX.TabB base mg (codeAd K "by_size") PT) : CalX P w K mg base "corners" 4 ["size", "one", "other"] (SpWX K 3 (W_corners K (ad K))) := by
  obtain ⟨fd, F⟩ := (Q2 c).d.def_ 1 (d := d_corners) rfl
  have F : FnP K "corners" "corners" s_corners (He.ga K "corners") fd := F
  exact ⟨⟨_, fd, He.glo_ok X G ((Q1 c).d.fact 10 (f := .glo "corners") rfl), F.kp, F.bindsN (fun _ _ _ _ _ _ us hl => match us, hl with | [_, _, _], _ => rfl), okWX F sc_corners (fun cdv A outer s H E hr => der_corners (bl c X G) (c_good_size c X G TB) (c_good_lot c X G TB) (c_both c X G TB) (c_rest c X G TB) (c_common c X G TB) (c_minus c X G TB) hr) (by decide)⟩⟩
theorem c_good_ends (c : Says K) (X : K.In h) (G : h.Ns mainGlobals mg) (TB : LamX.TabB base mg (codeAd K "by_size") PT) : CalX P w K mg base "good_ends" 4 ["size", "ties"] (SpWX K 2 (W_good_ends K (ad K))) := by
  obtain ⟨tk_MOST_TIES, g_MOST_TIES⟩ := He.int_ok X G ((Q3 c).d.fact 9 (f := .int "MOST_TIES" 40) rfl)
  obtain ⟨fd, F⟩ := (Q2 c).d.def_ 2 (d := d_good_ends) rfl
  have F : FnP K "good_ends" "good_ends" s_good_ends (He.ga K "good_ends") fd := F
  exact ⟨⟨_, fd, He.glo_ok X G ((Q1 c).d.fact 11 (f := .glo "good_ends") rfl), F.kp, F.bindsN (fun _ _ _ _ _ _ us hl => match us, hl with | [_, _], _ => rfl), okWX F sc_good_ends (fun cdv A outer s H E hr => der_good_ends (bl c X G) (c_is_row c X G TB) (c_is_pair c X G TB) (rz_BadNet c X G) g_MOST_TIES hr) (by decide)⟩⟩
theorem c_world_of (c : Says K) (X : K.In h) (G : h.Ns mainGlobals mg) (TB : LamX.TabB base mg (codeAd K "by_size") PT) : CalX P w K mg base "world_of" 4 ["net", "world"] (SpWX K 2 (W_world_of K (ad K))) := by
  obtain ⟨fd, F⟩ := (Q2 c).d.def_ 3 (d := d_world_of) rfl
  have F : FnP K "world_of" "world_of" s_world_of (He.ga K "world_of") fd := F
  exact ⟨⟨_, fd, He.glo_ok X G ((Q1 c).d.fact 12 (f := .glo "world_of") rfl), F.kp, F.bindsN (fun _ _ _ _ _ _ us hl => match us, hl with | [_, _], _ => rfl), okWX F sc_world_of (fun cdv A outer s H E hr => der_world_of (bl c X G) (c_good_world c X G TB) (r_many c X G TB) hr) (by decide)⟩⟩
theorem c_law_any_net (c : Says K) (X : K.In h) (G : h.Ns mainGlobals mg) (TB : LamX.TabB base mg (codeAd K "by_size") PT) : Cal P w K mg base "_law_any_net" 4 ["_law_draws_here"] (SpWD K 0 (W_law_any_net K (ad K))) := by
  obtain ⟨fd, F⟩ := (Q2 c).d.def_ 4 (d := d_law_any_net) rfl
  have F : FnP K "_law_any_net" "_law_any_net" s_law_any_net (He.ga K "_law_any_net") fd := F
  exact ⟨_, fd, He.glo_ok X G ((Q1 c).d.fact 13 (f := .glo "_law_any_net") rfl), F.kp, F.bindsN (fun _ _ _ _ _ _ us hl => match us, hl with | [_], _ => rfl), okWD F sc_law_any_net (fun cdv A outer s H E hr => der_law_any_net (bl c X G) (c_law_net c X G TB) (c_law_take c X G TB) (c_law_free_ties c X G TB) hr) rfl (by decide)⟩
theorem c_law_twoway_told (c : Says K) (X : K.In h) (G : h.Ns mainGlobals mg) (TB : LamX.TabB base mg (codeAd K "by_size") PT) : Cal P w K mg base "_law_twoway_told" 4 ["_law_net_here"] (SpW K 1 (W_law_twoway_told K (ad K))) := by
  obtain ⟨fd, F⟩ := (Q2 c).d.def_ 5 (d := d_law_twoway_told) rfl
  have F : FnP K "_law_twoway_told" "_law_twoway_told" s_law_twoway_told (He.ga K "_law_twoway_told") fd := F
  exact ⟨_, fd, He.glo_ok X G ((Q1 c).d.fact 14 (f := .glo "_law_twoway_told") rfl), F.kp, F.bindsN (fun _ _ _ _ _ _ us hl => match us, hl with | [_], _ => rfl), okW F sc_law_twoway_told (fun cdv A outer s H E hr => der_law_twoway_told (bl c X G) (c_check_twoway c X G TB) (He.glo_ok X G ((Q2 c).d.fact 11 (f := .glo "GatesError") rfl)) (He.glo_ok X G ((Q2 c).d.fact 10 (f := .glo "NotTwoway") rfl)) hr) (by decide)⟩
theorem c_crosses (c : Says K) (X : K.In h) (G : h.Ns mainGlobals mg) (TB : LamX.TabB base mg (codeAd K "by_size") PT) : CalX P w K mg base "crosses" 5 ["size", "one", "other"] (SpWX K 3 (W_crosses K (ad K))) := by
  obtain ⟨fd, F⟩ := (Q2 c).d.def_ 6 (d := d_crosses) rfl
  have F : FnP K "crosses" "crosses" s_crosses (He.ga K "crosses") fd := F
  exact ⟨⟨_, fd, He.glo_ok X G ((Q1 c).d.fact 15 (f := .glo "crosses") rfl), F.kp, F.bindsN (fun _ _ _ _ _ _ us hl => match us, hl with | [_, _, _], _ => rfl), okWX F sc_crosses (fun cdv A outer s H E hr => der_crosses (bl c X G) (c_corners c X G TB) hr) (by decide)⟩⟩
theorem c_law_corners_right (c : Says K) (X : K.In h) (G : h.Ns mainGlobals mg) (TB : LamX.TabB base mg (codeAd K "by_size") PT) : Cal P w K mg base "_law_corners_right" 6 ["_law_draws_here", "_law_size", "_law_one", "_law_other"] (SpWD K 3 (W_law_corners_right K (ad K))) := by
  obtain ⟨fd, F⟩ := (Q2 c).d.def_ 10 (d := d_law_corners_right) rfl
  have F : FnP K "_law_corners_right" "_law_corners_right" s_law_corners_right (He.ga K "_law_corners_right") fd := F
  exact ⟨_, fd, He.glo_ok X G ((Q1 c).d.fact 19 (f := .glo "_law_corners_right") rfl), F.kp, F.bindsN (fun _ _ _ _ _ _ us hl => match us, hl with | [_, _, _, _], _ => rfl), okWD F sc_law_corners_right (fun cdv A outer s H E hr => der_law_corners_right (bl c X G) (c_law_handed c X G TB) (c_corners c X G TB) (c_law_rest c X G TB) (c_law_lot_ok c X G TB) (c_crosses c X G TB) hr) rfl (by decide)⟩
theorem c_law_listed_told (c : Says K) (X : K.In h) (G : h.Ns mainGlobals mg) (TB : LamX.TabB base mg (codeAd K "by_size") PT) : Cal P w K mg base "_law_listed_told" 8 ["_law_inner", "_law_outer"] (SpW K 2 (W_law_listed_told K (ad K))) := by
  obtain ⟨fd, F⟩ := (Q2 c).d.def_ 17 (d := d_law_listed_told) rfl
  have F : FnP K "_law_listed_told" "_law_listed_told" s_law_listed_told (He.ga K "_law_listed_told") fd := F
  exact ⟨_, fd, He.glo_ok X G ((Q1 c).d.fact 26 (f := .glo "_law_listed_told") rfl), F.kp, F.bindsN (fun _ _ _ _ _ _ us hl => match us, hl with | [_, _], _ => rfl), okW F sc_law_listed_told (fun cdv A outer s H E hr => der_law_listed_told (bl c X G) (c_lots_between c X G TB) (xf_BadLot c) (xf_NotInside c) (xf_TooMany c) (He.glo_ok X G ((Q2 c).d.fact 7 (f := .glo "BadLot") rfl)) (He.glo_ok X G ((Q2 c).d.fact 8 (f := .glo "NotInside") rfl)) (He.glo_ok X G ((Q2 c).d.fact 9 (f := .glo "TooMany") rfl)) hr) (by decide)⟩
theorem c_law_listed_right (c : Says K) (X : K.In h) (G : h.Ns mainGlobals mg) (TB : LamX.TabB base mg (codeAd K "by_size") PT) : Cal P w K mg base "_law_listed_right" 9 ["_law_size"] (SpW K 1 (W_law_listed_right K (ad K))) := by
  obtain ⟨fd, F⟩ := (Q3 c).d.def_ 0 (d := d_law_listed_right) rfl
  have F : FnP K "_law_listed_right" "_law_listed_right" s_law_listed_right (He.ga K "_law_listed_right") fd := F
  exact ⟨_, fd, He.glo_ok X G ((Q2 c).d.fact 0 (f := .glo "_law_listed_right") rfl), F.kp, F.bindsN (fun _ _ _ _ _ _ us hl => match us, hl with | [_], _ => rfl), okW F sc_law_listed_right (fun cdv A outer s H E hr => der_law_listed_right (bl c X G) (c_law_listed_told c X G TB) (c_lots_between c X G TB) hr) (by decide)⟩
theorem c_Oneway_gates (c : Says K) (X : K.In h) (G : h.Ns mainGlobals mg) (TB : LamX.TabB base mg (codeAd K "by_size") PT) : CalMX P w K mg base (He.ga K "Oneway") "gates" 4 ["self", "lot"] (SpWX K 2 (W_Net_gates K (ad K))) := by
  obtain ⟨fd, F⟩ := (Q3 c).d.def_ 4 (d := d_Oneway_gates) rfl
  have F : FnP K "gates" "Net.gates" s_Net_gates (He.ma K (He.ga K "Oneway") "gates") fd := F
  exact ⟨(nt_Oneway c).cl, _, fd, He.meth_ok ((Q3 c).d.fact 20 (f := .meth "Oneway" "gates") rfl), F.bindsN (fun _ _ _ _ _ _ us hl => match us, hl with | [_, _], _ => rfl), okWX F sc_Net_gates (fun cdv A outer s H E hr => der_Net_gates (bl c X G) (c_good_lot c X G TB) hr) (by decide)⟩
theorem c_Twoway_gates (c : Says K) (X : K.In h) (G : h.Ns mainGlobals mg) (TB : LamX.TabB base mg (codeAd K "by_size") PT) : CalMX P w K mg base (He.ga K "Twoway") "gates" 4 ["self", "lot"] (SpWX K 2 (W_Twoway_gates K (ad K))) := by
  obtain ⟨fd, F⟩ := (Q3 c).d.def_ 5 (d := d_Twoway_gates) rfl
  have F : FnP K "gates" "Twoway.gates" s_Twoway_gates (He.ma K (He.ga K "Twoway") "gates") fd := F
  exact ⟨(nt_Twoway c).cl, _, fd, He.meth_ok ((Q3 c).d.fact 21 (f := .meth "Twoway" "gates") rfl), F.bindsN (fun _ _ _ _ _ _ us hl => match us, hl with | [_, _], _ => rfl), okWX F sc_Twoway_gates (fun cdv A outer s H E hr => der_Twoway_gates (bl c X G) (c_good_lot c X G TB) hr) (by decide)⟩
theorem r_gates (c : Says K) (X : K.In h) (G : h.Ns mainGlobals mg) (TB : LamX.TabB base mg (codeAd K "by_size") PT) : ∀ C sp, R_gates K (ad K) C sp → CalMX P w K mg base C "gates" 4 ["self", "lot"] sp := fun C sp z => by
  rcases z with ⟨rfl, rfl⟩ | ⟨rfl, rfl⟩
  · exact c_Oneway_gates c X G TB
  · exact c_Twoway_gates c X G TB
theorem c_Oneway_inner (c : Says K) (X : K.In h) (G : h.Ns mainGlobals mg) (TB : LamX.TabB base mg (codeAd K "by_size") PT) : CalMX P w K mg base (He.ga K "Oneway") "inner" 4 ["self", "lot"] (SpWX K 2 (W_Net_inner K (ad K))) := by
  obtain ⟨fd, F⟩ := (Q3 c).d.def_ 6 (d := d_Oneway_inner) rfl
  have F : FnP K "inner" "Net.inner" s_Net_inner (He.ma K (He.ga K "Oneway") "inner") fd := F
  exact ⟨(nt_Oneway c).cl, _, fd, He.meth_ok ((Q3 c).d.fact 22 (f := .meth "Oneway" "inner") rfl), F.bindsN (fun _ _ _ _ _ _ us hl => match us, hl with | [_, _], _ => rfl), okWX F sc_Net_inner (fun cdv A outer s H E hr => der_Net_inner (bl c X G) (c_good_lot c X G TB) hr) (by decide)⟩
theorem c_Twoway_inner (c : Says K) (X : K.In h) (G : h.Ns mainGlobals mg) (TB : LamX.TabB base mg (codeAd K "by_size") PT) : CalMX P w K mg base (He.ga K "Twoway") "inner" 4 ["self", "lot"] (SpWX K 2 (W_Net_inner K (ad K))) := by
  obtain ⟨fd, F⟩ := (Q3 c).d.def_ 7 (d := d_Twoway_inner) rfl
  have F : FnP K "inner" "Net.inner" s_Net_inner (He.ma K (He.ga K "Twoway") "inner") fd := F
  exact ⟨(nt_Twoway c).cl, _, fd, He.meth_ok ((Q3 c).d.fact 23 (f := .meth "Twoway" "inner") rfl), F.bindsN (fun _ _ _ _ _ _ us hl => match us, hl with | [_, _], _ => rfl), okWX F sc_Net_inner (fun cdv A outer s H E hr => der_Net_inner (bl c X G) (c_good_lot c X G TB) hr) (by decide)⟩
theorem r_inner (c : Says K) (X : K.In h) (G : h.Ns mainGlobals mg) (TB : LamX.TabB base mg (codeAd K "by_size") PT) : ∀ C sp, R_inner K (ad K) C sp → CalMX P w K mg base C "inner" 4 ["self", "lot"] sp := fun C sp z => by
  rcases z with ⟨rfl, rfl⟩ | ⟨rfl, rfl⟩
  · exact c_Oneway_inner c X G TB
  · exact c_Twoway_inner c X G TB
theorem c_Oneway_between (c : Says K) (X : K.In h) (G : h.Ns mainGlobals mg) (TB : LamX.TabB base mg (codeAd K "by_size") PT) : CalMX P w K mg base (He.ga K "Oneway") "between" 4 ["self", "one", "other"] (SpWX K 3 (W_Net_between K (ad K))) := by
  obtain ⟨fd, F⟩ := (Q3 c).d.def_ 8 (d := d_Oneway_between) rfl
  have F : FnP K "between" "Net.between" s_Net_between (He.ma K (He.ga K "Oneway") "between") fd := F
  exact ⟨(nt_Oneway c).cl, _, fd, He.meth_ok ((Q3 c).d.fact 24 (f := .meth "Oneway" "between") rfl), F.bindsN (fun _ _ _ _ _ _ us hl => match us, hl with | [_, _, _], _ => rfl), okWX F sc_Net_between (fun cdv A outer s H E hr => der_Net_between (bl c X G) (c_good_lot c X G TB) (c_need_apart c X G TB) hr) (by decide)⟩
theorem c_Twoway_between (c : Says K) (X : K.In h) (G : h.Ns mainGlobals mg) (TB : LamX.TabB base mg (codeAd K "by_size") PT) : CalMX P w K mg base (He.ga K "Twoway") "between" 4 ["self", "one", "other"] (SpWX K 3 (W_Net_between K (ad K))) := by
  obtain ⟨fd, F⟩ := (Q3 c).d.def_ 9 (d := d_Twoway_between) rfl
  have F : FnP K "between" "Net.between" s_Net_between (He.ma K (He.ga K "Twoway") "between") fd := F
  exact ⟨(nt_Twoway c).cl, _, fd, He.meth_ok ((Q3 c).d.fact 25 (f := .meth "Twoway" "between") rfl), F.bindsN (fun _ _ _ _ _ _ us hl => match us, hl with | [_, _, _], _ => rfl), okWX F sc_Net_between (fun cdv A outer s H E hr => der_Net_between (bl c X G) (c_good_lot c X G TB) (c_need_apart c X G TB) hr) (by decide)⟩
theorem r_between (c : Says K) (X : K.In h) (G : h.Ns mainGlobals mg) (TB : LamX.TabB base mg (codeAd K "by_size") PT) : ∀ C sp, R_between K (ad K) C sp → CalMX P w K mg base C "between" 4 ["self", "one", "other"] sp := fun C sp z => by
  rcases z with ⟨rfl, rfl⟩ | ⟨rfl, rfl⟩
  · exact c_Oneway_between c X G TB
  · exact c_Twoway_between c X G TB
theorem c_Oneway_init (c : Says K) (X : K.In h) (G : h.Ns mainGlobals mg) (TB : LamX.TabB base mg (codeAd K "by_size") PT) : CalIX P w K mg base (He.ga K "Oneway") 5 ["self", "size", "ties"] (spInit K (He.ga K "Oneway")) := by
  obtain ⟨fd, F⟩ := (Q3 c).d.def_ 10 (d := d_Oneway_init) rfl
  have F : FnP K "__init__" "Net.__init__" s_Net__init_ (He.ma K (He.ga K "Oneway") "__init__") fd := F
  exact ⟨_, fd, He.mkr_ok ((Q3 c).d.fact 15 (f := .mkr "Oneway") rfl), F.bindsN (fun _ _ _ _ _ _ us hl => match us, hl with | [_, _, _], _ => rfl), F.ok sc_Net__init_ (fun vs H Q E h => by obtain ⟨_, _, _, _, _, _, rfl, _⟩ := h; rfl) fun cdv A outer s H vs Q E hr h => ⟨_, der_Net__init_ (bl c X G) (c_good_size c X G TB) (c_good_ends c X G TB) hr, init_run (a := ad K) (nt_Oneway c) h⟩⟩
theorem c_Twoway_init (c : Says K) (X : K.In h) (G : h.Ns mainGlobals mg) (TB : LamX.TabB base mg (codeAd K "by_size") PT) : CalIX P w K mg base (He.ga K "Twoway") 5 ["self", "size", "ties"] (spInit K (He.ga K "Twoway")) := by
  obtain ⟨fd, F⟩ := (Q3 c).d.def_ 11 (d := d_Twoway_init) rfl
  have F : FnP K "__init__" "Net.__init__" s_Net__init_ (He.ma K (He.ga K "Twoway") "__init__") fd := F
  exact ⟨_, fd, He.mkr_ok ((Q3 c).d.fact 19 (f := .mkr "Twoway") rfl), F.bindsN (fun _ _ _ _ _ _ us hl => match us, hl with | [_, _, _], _ => rfl), F.ok sc_Net__init_ (fun vs H Q E h => by obtain ⟨_, _, _, _, _, _, rfl, _⟩ := h; rfl) fun cdv A outer s H vs Q E hr h => ⟨_, der_Net__init_ (bl c X G) (c_good_size c X G TB) (c_good_ends c X G TB) hr, init_run (a := ad K) (nt_Twoway c) h⟩⟩
theorem c_cost (c : Says K) (X : K.In h) (G : h.Ns mainGlobals mg) (TB : LamX.TabB base mg (codeAd K "by_size") PT) : CalX P w K mg base "cost" 5 ["net", "world", "lot"] (SpWX K 3 (W_cost K (ad K))) := by
  obtain ⟨fd, F⟩ := (Q2 c).d.def_ 7 (d := d_cost) rfl
  have F : FnP K "cost" "cost" s_cost (He.ga K "cost") fd := F
  exact ⟨⟨_, fd, He.glo_ok X G ((Q1 c).d.fact 16 (f := .glo "cost") rfl), F.kp, F.bindsN (fun _ _ _ _ _ _ us hl => match us, hl with | [_, _, _], _ => rfl), okWX F sc_cost (fun cdv A outer s H E hr => der_cost (bl c X G) (c_world_of c X G TB) (c_amount c X G TB) (r_gates c X G TB) hr) (by decide)⟩⟩
theorem c_costs_less (c : Says K) (X : K.In h) (G : h.Ns mainGlobals mg) (TB : LamX.TabB base mg (codeAd K "by_size") PT) : CalX P w K mg base "costs_less" 6 ["net", "world", "plus", "less"] (SpWX K 4 (W_costs_less K (ad K))) := by
  obtain ⟨fd, F⟩ := (Q2 c).d.def_ 8 (d := d_costs_less) rfl
  have F : FnP K "costs_less" "costs_less" s_costs_less (He.ga K "costs_less") fd := F
  exact ⟨⟨_, fd, He.glo_ok X G ((Q1 c).d.fact 17 (f := .glo "costs_less") rfl), F.kp, F.bindsN (fun _ _ _ _ _ _ us hl => match us, hl with | [_, _, _, _], _ => rfl), okWX F sc_costs_less (fun cdv A outer s H E hr => der_costs_less (bl c X G) (c_cost c X G TB) hr) (by decide)⟩⟩
theorem c_law_four (c : Says K) (X : K.In h) (G : h.Ns mainGlobals mg) (TB : LamX.TabB base mg (codeAd K "by_size") PT) : Cal P w K mg base "_law_four" 6 ["_law_draws_here", "_law_net_here", "_law_world_here", "_law_one", "_law_other"] (SpWD K 4 (W_law_four K (ad K))) := by
  obtain ⟨fd, F⟩ := (Q2 c).d.def_ 9 (d := d_law_four) rfl
  have F : FnP K "_law_four" "_law_four" s_law_four (He.ga K "_law_four") fd := F
  exact ⟨_, fd, He.glo_ok X G ((Q1 c).d.fact 18 (f := .glo "_law_four") rfl), F.kp, F.bindsN (fun _ _ _ _ _ _ us hl => match us, hl with | [_, _, _, _, _], _ => rfl), okWD F sc_law_four (fun cdv A outer s H E hr => der_law_four (bl c X G) (c_law_handed c X G TB) (c_cost c X G TB) hr) rfl (by decide)⟩
theorem c_spared (c : Says K) (X : K.In h) (G : h.Ns mainGlobals mg) (TB : LamX.TabB base mg (codeAd K "by_size") PT) : CalX P w K mg base "spared" 7 ["net", "world", "one", "other"] (SpWX K 4 (W_spared K (ad K))) := by
  obtain ⟨fd, F⟩ := (Q2 c).d.def_ 11 (d := d_spared) rfl
  have F : FnP K "spared" "spared" s_spared (He.ga K "spared") fd := F
  exact ⟨⟨_, fd, He.glo_ok X G ((Q1 c).d.fact 20 (f := .glo "spared") rfl), F.kp, F.bindsN (fun _ _ _ _ _ _ us hl => match us, hl with | [_, _, _, _], _ => rfl), okWX F sc_spared (fun cdv A outer s H E hr => der_spared (bl c X G) (c_world_of c X G TB) (c_good_lot c X G TB) (c_common c X G TB) (c_both c X G TB) (c_costs_less c X G TB) hr) (by decide)⟩⟩
theorem c_spared_apart (c : Says K) (X : K.In h) (G : h.Ns mainGlobals mg) (TB : LamX.TabB base mg (codeAd K "by_size") PT) : CalX P w K mg base "spared_apart" 7 ["net", "world", "one", "other"] (SpWX K 4 (W_spared_apart K (ad K))) := by
  obtain ⟨fd, F⟩ := (Q2 c).d.def_ 12 (d := d_spared_apart) rfl
  have F : FnP K "spared_apart" "spared_apart" s_spared_apart (He.ga K "spared_apart") fd := F
  exact ⟨⟨_, fd, He.glo_ok X G ((Q1 c).d.fact 21 (f := .glo "spared_apart") rfl), F.kp, F.bindsN (fun _ _ _ _ _ _ us hl => match us, hl with | [_, _, _, _], _ => rfl), okWX F sc_spared_apart (fun cdv A outer s H E hr => der_spared_apart (bl c X G) (c_check_twoway c X G TB) (c_world_of c X G TB) (c_good_lot c X G TB) (c_minus c X G TB) (c_costs_less c X G TB) hr) (by decide)⟩⟩
theorem c_law_built (c : Says K) (X : K.In h) (G : h.Ns mainGlobals mg) (TB : LamX.TabB base mg (codeAd K "by_size") PT) : Cal P w K mg base "_law_built" 7 ["_law_kind_here", "_law_size", "_law_ties"] (SpW K 3 (W_law_built K (ad K))) := by
  obtain ⟨fd, F⟩ := (Q2 c).d.def_ 13 (d := d_law_built) rfl
  have F : FnP K "_law_built" "_law_built" s_law_built (He.ga K "_law_built") fd := F
  exact ⟨_, fd, He.glo_ok X G ((Q1 c).d.fact 22 (f := .glo "_law_built") rfl), F.kp, F.bindsN (fun _ _ _ _ _ _ us hl => match us, hl with | [_, _, _], _ => rfl), okW F sc_law_built (fun cdv A outer s H E hr => der_law_built (bl c X G) (c_Oneway_init c X G TB) (c_Twoway_init c X G TB) (He.glo_ok X G ((Q2 c).d.fact 4 (f := .glo "Oneway") rfl)) (He.glo_ok X G ((Q2 c).d.fact 5 (f := .glo "Twoway") rfl)) hr) (by decide)⟩
theorem c_law_lot_door (c : Says K) (X : K.In h) (G : h.Ns mainGlobals mg) (TB : LamX.TabB base mg (codeAd K "by_size") PT) : Cal P w K mg base "_law_lot_door" 8 ["_law_word", "_law_net_here", "_law_world_here", "_law_lot_here"] (SpW K 4 (W_law_lot_door K (ad K))) := by
  obtain ⟨fd, F⟩ := (Q2 c).d.def_ 14 (d := d_law_lot_door) rfl
  have F : FnP K "_law_lot_door" "_law_lot_door" s_law_lot_door (He.ga K "_law_lot_door") fd := F
  exact ⟨_, fd, He.glo_ok X G ((Q1 c).d.fact 23 (f := .glo "_law_lot_door") rfl), F.kp, F.bindsN (fun _ _ _ _ _ _ us hl => match us, hl with | [_, _, _, _], _ => rfl), okW F sc_law_lot_door (fun cdv A outer s H E hr => der_law_lot_door (bl c X G) (c_lot_of c X G TB) (c_cost c X G TB) (c_corners c X G TB) (c_crosses c X G TB) (c_spared c X G TB) (r_gates c X G TB) (r_inner c X G TB) (r_between c X G TB) (xf_BadLot c) (He.glo_ok X G ((Q2 c).d.fact 7 (f := .glo "BadLot") rfl)) (He.glo_ok X G ((Q2 c).d.fact 13 (f := .glo "BadNet") rfl)) (He.glo_ok X G ((Q2 c).d.fact 14 (f := .glo "BadNumber") rfl)) (He.glo_ok X G ((Q2 c).d.fact 15 (f := .glo "BadPlace") rfl)) (He.glo_ok X G ((Q2 c).d.fact 16 (f := .glo "BadTie") rfl)) (He.glo_ok X G ((Q2 c).d.fact 11 (f := .glo "GatesError") rfl)) hr) (by decide)⟩
theorem c_law_world_told (c : Says K) (X : K.In h) (G : h.Ns mainGlobals mg) (TB : LamX.TabB base mg (codeAd K "by_size") PT) : Cal P w K mg base "_law_world_told" 8 ["_law_word", "_law_net_here", "_law_world_here", "_law_lot_here"] (SpW K 4 (W_law_world_told K (ad K))) := by
  obtain ⟨fd, F⟩ := (Q2 c).d.def_ 15 (d := d_law_world_told) rfl
  have F : FnP K "_law_world_told" "_law_world_told" s_law_world_told (He.ga K "_law_world_told") fd := F
  exact ⟨_, fd, He.glo_ok X G ((Q1 c).d.fact 24 (f := .glo "_law_world_told") rfl), F.kp, F.bindsN (fun _ _ _ _ _ _ us hl => match us, hl with | [_, _, _, _], _ => rfl), okW F sc_law_world_told (fun cdv A outer s H E hr => der_law_world_told (bl c X G) (c_spared c X G TB) (c_cost c X G TB) (c_world_of c X G TB) (xf_BadWorld c) (He.glo_ok X G ((Q2 c).d.fact 7 (f := .glo "BadLot") rfl)) (He.glo_ok X G ((Q2 c).d.fact 13 (f := .glo "BadNet") rfl)) (He.glo_ok X G ((Q2 c).d.fact 6 (f := .glo "BadWorld") rfl)) hr) (by decide)⟩
theorem c_law_apart_told (c : Says K) (X : K.In h) (G : h.Ns mainGlobals mg) (TB : LamX.TabB base mg (codeAd K "by_size") PT) : Cal P w K mg base "_law_apart_told" 8 ["_law_net_here", "_law_world_here", "_law_one", "_law_other"] (SpW K 4 (W_law_apart_told K (ad K))) := by
  obtain ⟨fd, F⟩ := (Q2 c).d.def_ 16 (d := d_law_apart_told) rfl
  have F : FnP K "_law_apart_told" "_law_apart_told" s_law_apart_told (He.ga K "_law_apart_told") fd := F
  exact ⟨_, fd, He.glo_ok X G ((Q1 c).d.fact 25 (f := .glo "_law_apart_told") rfl), F.kp, F.bindsN (fun _ _ _ _ _ _ us hl => match us, hl with | [_, _, _, _], _ => rfl), okW F sc_law_apart_told (fun cdv A outer s H E hr => der_law_apart_told (bl c X G) (c_spared_apart c X G TB) (xf_BadLot c) (xf_BadWorld c) (He.glo_ok X G ((Q2 c).d.fact 7 (f := .glo "BadLot") rfl)) (He.glo_ok X G ((Q2 c).d.fact 6 (f := .glo "BadWorld") rfl)) (He.glo_ok X G ((Q2 c).d.fact 11 (f := .glo "GatesError") rfl)) (He.glo_ok X G ((Q2 c).d.fact 10 (f := .glo "NotTwoway") rfl)) (He.glo_ok X G ((Q2 c).d.fact 12 (f := .glo "OtherKind") rfl)) hr) (by decide)⟩
theorem c_law_apart_right (c : Says K) (X : K.In h) (G : h.Ns mainGlobals mg) (TB : LamX.TabB base mg (codeAd K "by_size") PT) : Cal P w K mg base "_law_apart_right" 9 ["_law_draws_here", "_law_net_here", "_law_kind_here", "_law_ties", "_law_world_here", "_law_one", "_law_other"] (SpWD K 6 (W_law_apart_right K (ad K))) := by
  obtain ⟨fd, F⟩ := (Q3 c).d.def_ 1 (d := d_law_apart_right) rfl
  have F : FnP K "_law_apart_right" "_law_apart_right" s_law_apart_right (He.ga K "_law_apart_right") fd := F
  exact ⟨_, fd, He.glo_ok X G ((Q2 c).d.fact 1 (f := .glo "_law_apart_right") rfl), F.kp, F.bindsN (fun _ _ _ _ _ _ us hl => match us, hl with | [_, _, _, _, _, _, _], _ => rfl), okWD F sc_law_apart_right (fun cdv A outer s H E hr => der_law_apart_right (bl c X G) (c_law_apart_told c X G TB) (c_law_twoway_told c X G TB) (c_law_amount_between c X G TB) (c_law_handed c X G TB) (c_spared_apart c X G TB) (c_law_int c X G TB) (c_law_rest c X G TB) (c_spared c X G TB) (c_cost c X G TB) (r_gates c X G TB) hr) rfl (by decide)⟩
theorem c_law_refused (c : Says K) (X : K.In h) (G : h.Ns mainGlobals mg) (TB : LamX.TabB base mg (codeAd K "by_size") PT) : CalG P w K mg base "_law_refused" 9 ["_law_draws_here", "_law_net_here", "_law_world_here", "_law_one"] (SpWD K 3 (W_law_refused K (ad K))) := by
  obtain ⟨fd, F⟩ := (Q3 c).d.def_ 2 (d := d_law_refused) rfl
  have F : FnP K "_law_refused" "_law_refused" s_law_refused (He.ga K "_law_refused") fd := F
  exact ⟨⟨_, fd, He.glo_ok X G ((Q2 c).d.fact 2 (f := .glo "_law_refused") rfl), F.kp, F.bindsN (fun _ _ _ _ _ _ us hl => match us, hl with | [_, _, _, _], _ => rfl), okWDG F sc_law_refused (fun cdv A outer s H E hG hr => der_law_refused (bl c X G) (c_law_bad_lot c X G TB) (c_law_take c X G TB) (c_law_lot_door c X G TB) (c_law_bad_world c X G TB) (c_law_world_told c X G TB) (c_law_apart_told c X G TB) hr hG) rfl (by decide)⟩⟩
end
theorem eq_lotCl_00 : decide ((⟨"BadLot", "at", 5, false, [.f, .is "GatesError" true, .isT ["BadNet", "BadNumber", "BadPlace", "BadTie"] false]⟩ : Cl5) = (⟨"BadLot", "at", 5, false, [.f, .is "GatesError" true, .isT ["BadNet", "BadNumber", "BadPlace", "BadTie"] false]⟩ : Cl5)) = true := by decide +kernel
theorem ext_lotCl {K : PySem.W.Frag} (c : Says K) : ExT5 lotCl K (ad K) := by
  refine ⟨fun x hx y hy => ?_, fun x hx => ?_⟩
  · simp only [lotCl, List.mem_cons, List.not_mem_nil, or_false] at hx hy
    rcases hx with rfl
    · rcases hy with rfl
      · rw [eq_lotCl_00]; exact of_decide_eq_true ((Q2 c).b 7)
  · simp only [lotCl, List.mem_cons, List.not_mem_nil, or_false] at hx
    rcases hx with rfl
    · exact ⟨⟨excB_ok ((Q3 c).b 0), of_decide_eq_true ((Q3 c).b 3)⟩, ⟨excB_ok ((Q3 c).b 0), by decide, of_decide_eq_true ((Q3 c).b 4)⟩, trivial⟩
theorem eq_worldCl_00 : decide ((⟨"BadWorld", "at", 5, false, [.f, .ity "ValueError" true, .isT ["BadLot", "BadNet"] false]⟩ : Cl5) = (⟨"BadWorld", "at", 5, false, [.f, .ity "ValueError" true, .isT ["BadLot", "BadNet"] false]⟩ : Cl5)) = true := by decide +kernel
theorem ext_worldCl {K : PySem.W.Frag} (c : Says K) : ExT5 worldCl K (ad K) := by
  refine ⟨fun x hx y hy => ?_, fun x hx => ?_⟩
  · simp only [worldCl, List.mem_cons, List.not_mem_nil, or_false] at hx hy
    rcases hx with rfl
    · rcases hy with rfl
      · rw [eq_worldCl_00]; exact of_decide_eq_true ((Q2 c).b 3)
  · simp only [worldCl, List.mem_cons, List.not_mem_nil, or_false] at hx
    rcases hx with rfl
    · exact ⟨⟨excB_ok ((Q3 c).b 1), of_decide_eq_true ((Q3 c).b 5)⟩, ⟨excB_ok ((Q3 c).b 1), by decide, of_decide_eq_true ((Q3 c).b 6)⟩, trivial⟩
theorem eq_apartCl_00 : decide ((⟨"NotTwoway", "", 5, false, [.is "GatesError" true, .is "OtherKind" false]⟩ : Cl5) = (⟨"NotTwoway", "", 5, false, [.is "GatesError" true, .is "OtherKind" false]⟩ : Cl5)) = true := by decide +kernel
theorem eq_apartCl_01 : decide ((⟨"NotTwoway", "", 5, false, [.is "GatesError" true, .is "OtherKind" false]⟩ : Cl5) = (⟨"BadLot", "at", 6, true, [.f]⟩ : Cl5)) = false := by decide +kernel
theorem eq_apartCl_02 : decide ((⟨"NotTwoway", "", 5, false, [.is "GatesError" true, .is "OtherKind" false]⟩ : Cl5) = (⟨"BadWorld", "at", 7, true, [.tw "world"]⟩ : Cl5)) = false := by decide +kernel
theorem eq_apartCl_10 : decide ((⟨"BadLot", "at", 6, true, [.f]⟩ : Cl5) = (⟨"NotTwoway", "", 5, false, [.is "GatesError" true, .is "OtherKind" false]⟩ : Cl5)) = false := by decide +kernel
theorem eq_apartCl_11 : decide ((⟨"BadLot", "at", 6, true, [.f]⟩ : Cl5) = (⟨"BadLot", "at", 6, true, [.f]⟩ : Cl5)) = true := by decide +kernel
theorem eq_apartCl_12 : decide ((⟨"BadLot", "at", 6, true, [.f]⟩ : Cl5) = (⟨"BadWorld", "at", 7, true, [.tw "world"]⟩ : Cl5)) = false := by decide +kernel
theorem eq_apartCl_20 : decide ((⟨"BadWorld", "at", 7, true, [.tw "world"]⟩ : Cl5) = (⟨"NotTwoway", "", 5, false, [.is "GatesError" true, .is "OtherKind" false]⟩ : Cl5)) = false := by decide +kernel
theorem eq_apartCl_21 : decide ((⟨"BadWorld", "at", 7, true, [.tw "world"]⟩ : Cl5) = (⟨"BadLot", "at", 6, true, [.f]⟩ : Cl5)) = false := by decide +kernel
theorem eq_apartCl_22 : decide ((⟨"BadWorld", "at", 7, true, [.tw "world"]⟩ : Cl5) = (⟨"BadWorld", "at", 7, true, [.tw "world"]⟩ : Cl5)) = true := by decide +kernel
theorem ext_apartCl {K : PySem.W.Frag} (c : Says K) : ExT5 apartCl K (ad K) := by
  refine ⟨fun x hx y hy => ?_, fun x hx => ?_⟩
  · simp only [apartCl, List.mem_cons, List.not_mem_nil, or_false] at hx hy
    rcases hx with rfl | rfl | rfl
    · rcases hy with rfl | rfl | rfl
      · rw [eq_apartCl_00]; exact of_decide_eq_true ((Q2 c).b 25)
      · rw [eq_apartCl_01]; exact of_decide_eq_true ((Q2 c).b 22)
      · rw [eq_apartCl_02]; exact of_decide_eq_true ((Q2 c).b 23)
    · rcases hy with rfl | rfl | rfl
      · rw [eq_apartCl_10]; exact of_decide_eq_true ((Q2 c).b 10)
      · rw [eq_apartCl_11]; exact of_decide_eq_true ((Q2 c).b 7)
      · rw [eq_apartCl_12]; exact of_decide_eq_true ((Q2 c).b 8)
    · rcases hy with rfl | rfl | rfl
      · rw [eq_apartCl_20]; exact of_decide_eq_true ((Q2 c).b 5)
      · rw [eq_apartCl_21]; exact of_decide_eq_true ((Q2 c).b 2)
      · rw [eq_apartCl_22]; exact of_decide_eq_true ((Q2 c).b 3)
  · simp only [apartCl, List.mem_cons, List.not_mem_nil, or_false] at hx
    rcases hx with rfl | rfl | rfl
    · exact ⟨⟨excB_ok ((Q3 c).b 2), of_decide_eq_true ((Q3 c).b 7)⟩, ⟨excB_ok ((Q3 c).b 2), of_decide_eq_true ((Q3 c).b 8)⟩, trivial⟩
    · exact trivial
    · exact trivial
theorem eq_listCl_00 : decide ((⟨"BadLot", "at", 3, true, [.f]⟩ : Cl5) = (⟨"BadLot", "at", 3, true, [.f]⟩ : Cl5)) = true := by decide +kernel
theorem eq_listCl_01 : decide ((⟨"BadLot", "at", 3, true, [.f]⟩ : Cl5) = (⟨"NotInside", "place", 4, false, [.w "inside", .f]⟩ : Cl5)) = false := by decide +kernel
theorem eq_listCl_02 : decide ((⟨"BadLot", "at", 3, true, [.f]⟩ : Cl5) = (⟨"TooMany", "size", 5, false, [.w "many", .f]⟩ : Cl5)) = false := by decide +kernel
theorem eq_listCl_10 : decide ((⟨"NotInside", "place", 4, false, [.w "inside", .f]⟩ : Cl5) = (⟨"BadLot", "at", 3, true, [.f]⟩ : Cl5)) = false := by decide +kernel
theorem eq_listCl_11 : decide ((⟨"NotInside", "place", 4, false, [.w "inside", .f]⟩ : Cl5) = (⟨"NotInside", "place", 4, false, [.w "inside", .f]⟩ : Cl5)) = true := by decide +kernel
theorem eq_listCl_12 : decide ((⟨"NotInside", "place", 4, false, [.w "inside", .f]⟩ : Cl5) = (⟨"TooMany", "size", 5, false, [.w "many", .f]⟩ : Cl5)) = false := by decide +kernel
theorem eq_listCl_20 : decide ((⟨"TooMany", "size", 5, false, [.w "many", .f]⟩ : Cl5) = (⟨"BadLot", "at", 3, true, [.f]⟩ : Cl5)) = false := by decide +kernel
theorem eq_listCl_21 : decide ((⟨"TooMany", "size", 5, false, [.w "many", .f]⟩ : Cl5) = (⟨"NotInside", "place", 4, false, [.w "inside", .f]⟩ : Cl5)) = false := by decide +kernel
theorem eq_listCl_22 : decide ((⟨"TooMany", "size", 5, false, [.w "many", .f]⟩ : Cl5) = (⟨"TooMany", "size", 5, false, [.w "many", .f]⟩ : Cl5)) = true := by decide +kernel
theorem ext_listCl {K : PySem.W.Frag} (c : Says K) : ExT5 listCl K (ad K) := by
  refine ⟨fun x hx y hy => ?_, fun x hx => ?_⟩
  · simp only [listCl, List.mem_cons, List.not_mem_nil, or_false] at hx hy
    rcases hx with rfl | rfl | rfl
    · rcases hy with rfl | rfl | rfl
      · rw [eq_listCl_00]; exact of_decide_eq_true ((Q2 c).b 7)
      · rw [eq_listCl_01]; exact of_decide_eq_true ((Q2 c).b 9)
      · rw [eq_listCl_02]; exact of_decide_eq_true ((Q2 c).b 11)
    · rcases hy with rfl | rfl | rfl
      · rw [eq_listCl_10]; exact of_decide_eq_true ((Q2 c).b 12)
      · rw [eq_listCl_11]; exact of_decide_eq_true ((Q2 c).b 14)
      · rw [eq_listCl_12]; exact of_decide_eq_true ((Q2 c).b 16)
    · rcases hy with rfl | rfl | rfl
      · rw [eq_listCl_20]; exact of_decide_eq_true ((Q2 c).b 17)
      · rw [eq_listCl_21]; exact of_decide_eq_true ((Q2 c).b 19)
      · rw [eq_listCl_22]; exact of_decide_eq_true ((Q2 c).b 21)
  · simp only [listCl, List.mem_cons, List.not_mem_nil, or_false] at hx
    rcases hx with rfl | rfl | rfl
    · exact trivial
    · exact trivial
    · exact trivial
theorem eq_wayCl_00 : decide ((⟨"NotTwoway", "", 2, true, [.is "GatesError" true]⟩ : Cl5) = (⟨"NotTwoway", "", 2, true, [.is "GatesError" true]⟩ : Cl5)) = true := by decide +kernel
theorem ext_wayCl {K : PySem.W.Frag} (c : Says K) : ExT5 wayCl K (ad K) := by
  refine ⟨fun x hx y hy => ?_, fun x hx => ?_⟩
  · simp only [wayCl, List.mem_cons, List.not_mem_nil, or_false] at hx hy
    rcases hx with rfl
    · rcases hy with rfl
      · rw [eq_wayCl_00]; exact of_decide_eq_true ((Q2 c).b 25)
  · simp only [wayCl, List.mem_cons, List.not_mem_nil, or_false] at hx
    rcases hx with rfl
    · exact ⟨⟨excB_ok ((Q3 c).b 2), of_decide_eq_true ((Q3 c).b 7)⟩, trivial⟩
theorem ers5 {K : PySem.W.Frag} : ∀ x ∈ realL, (ad K).er x = true := fun x hx => by
  simp only [realL, List.mem_cons, List.not_mem_nil, or_false] at hx
  rcases hx with rfl | rfl | rfl | rfl | rfl
  · exact er0_BadWorld
  · exact er0_BadLot
  · exact er0_NotInside
  · exact er0_TooMany
  · exact er0_NotTwoway
theorem nst {K : PySem.W.Frag} (c : Says K) : ∀ x ∈ stopL, PySem.W.subIn K (.ref ((ad K).ec x)) (.type "StopIteration") = some false := fun x hx => by
  simp only [stopL, List.mem_cons, List.not_mem_nil, or_false] at hx
  rcases hx with rfl | rfl | rfl
  · exact of_decide_eq_true ((Q3 c).b 9)
  · exact of_decide_eq_true ((Q3 c).b 10)
  · exact of_decide_eq_true ((Q3 c).b 11)
theorem tb_head {K : PySem.W.Frag} (c : Says K) : PySem.W.codeHdIn K (codeAd K "by_size") PT = true := ((Q3 c).b 12)
theorem tb_off {K : PySem.W.Frag} (c : Says K) : K.lookup PT = none := Option.isNone_iff_eq_none.mp ((Q3 c).b 13)
theorem ok_law {P : Program} {w : World} {K : PySem.W.Frag} {mg : Str → Option Value} {h : Heap} (c : Says K) (X : K.In h) (G : h.Ns mainGlobals mg) (TQ : Tq (ad K)) : ∃ fd : FuncData, (∀ (s : Shared) (u : Value), BindsTo s fd ⟨[u], []⟩ [("_law_script", u)]) ∧ ∀ base : Heap, LamX.TabB base mg (codeAd K "by_size") PT → FnG P w K mg base 10 (He.ga K "law") fd ["_law_script"] (spLaw K) := by
  obtain ⟨fd, F⟩ := (Q3 c).d.def_ 3 (d := d_law) rfl
  have F : FnP K "law" "law" s_law (He.ga K "law") fd := F
  have b := FunD.bindsA (ps := ["_law_script"]) F (fun _ _ _ _ _ _ us hl => match us, hl with | [_], _ => rfl)
  exact ⟨fd, fun s u => b s [u] rfl, fun base TB => fnG F sc_law (fun vs H Q E h => by obtain ⟨_, _, rfl, _⟩ := h; rfl) fun cdv A outer s H vs Q E hG hr h => ⟨t_law K (ad K), PSs.nox (der_law (E := E) (bl c X G) (c_law_draws c X G TB) (c_law_kind c X G TB) (c_law_any_net c X G TB) (c_law_world c X G TB) (c_law_lot c X G TB) (c_law_built c X G TB) (c_law_amount_between c X G TB) (c_law_handed c X G TB) (c_spared c X G TB) (c_law_int c X G TB) (c_law_four c X G TB) (c_law_apart_right c X G TB) (c_law_corners_right c X G TB) (c_law_refused c X G TB) (c_law_listed_right c X G TB) hr hG), law_run (nk c) (ext_lotCl c) (ext_worldCl c) (ext_apartCl c) (ext_listCl c) (ext_wayCl c) ers5 (nst c) TQ h⟩⟩
theorem law_at {K : PySem.W.Frag} {mg : Str → Option Value} {h : Heap} (c : Says K) (X : K.In h) (G : h.Ns mainGlobals mg) : mg "law" = some (.ref (He.ga K "law")) := He.glo_ok X G ((Q2 c).d.fact 3 (f := .glo "law") rfl)
end K02
namespace K02
open PySem PySem.W PySem.Spec PySem.Calls PyProof.Rows L2 DL
variable [DL.Tb]
abbrev R : PySem.W.OpenRow := PySem.W.OpenLaw.row PySem.Challenge.rw_leastgates_k02_what_two_lots_save
def names0 : List Str := ["_wall", "GatesError", "BadNumber", "BadPlace", "BadTie", "BadLot", "BadNet", "BadWorld", "OtherKind", "NotTwoway", "Meeting", "NotInside", "TooMany", "MOST_PLACES", "MOST_LISTED", "is_integer", "is_index", "is_row", "is_pair", "first_wrong", "good_size", "wrong_member", "good_lot", "good_world", "need_apart", "need_inside", "need_listed", "lot_of", "both", "common"]
def names1 : List Str := ["minus", "rest", "by_size", "lots_inside", "lots_between", "corners", "crosses", "MOST_TIES", "Net", "Oneway", "Twoway", "good_ends", "net_of_kind", "check_twoway", "world_of", "amount", "cost", "spared", "spared_apart", "costs_less", "_law_draws", "_law_take", "_law_int", "_law_lot_ok", "_law_told_net", "_law_free_ties", "_law_net", "_law_kind", "_law_built", "_law_world"]
def names2 : List Str := ["_law_lot", "_law_rest", "_law_handed", "_law_any_net", "_law_bad_lot", "_law_bad_world", "_law_lot_door", "_law_world_told", "_law_apart_told", "_law_listed_told", "_law_listed_right", "_law_twoway_told", "_law_amount_between", "_law_four", "_law_apart_right", "_law_corners_right", "_law_refused"]
def names : List Str := names0 ++ (names1 ++ (names2))
theorem h1 (w : World) (os : OsState) : (endR R 20000 w os).map (fun s => staticsOk (importedModules R.prog.main.body) (boot_heap w.params) s.abs.heap) = some true := by kernel_rfl
theorem h2 (w : World) (os : OsState) : (endR R 20000 w os).map (fun s => namesBound R.prog s.abs.heap) = some true := by kernel_rfl
theorem h3 (w : World) (os : OsState) : (endR R 20000 w os).map (fun s => gensDone s.abs) = some true := by kernel_rfl
theorem h4 (w : World) (os : OsState) : (endR R 20000 w os).map (fun s => laidKept (boot_heap w.params) s.abs.heap) = some true := by kernel_rfl
theorem h5 (w : World) (os : OsState) : (endR R 20000 w os).map (fun s => HandSHeadRun.seenQ (view R.prog [83]) names (importedModules R.prog.main.body) (fun s => xlAt (view R.prog [83]) [] s && recOk R.toRowW.records s) s.abs) = some (openGood (view R.prog [83]) names) := by kernel_rfl
theorem g0 (w : World) (os : OsState) : (endR R 20000 w os).map (fun s => prtO prt0 (He.frG (HandSHeadRun.getT s) AS)) = some (prtV prt0) := by kernel_rfl
theorem g1 (w : World) (os : OsState) : (endR R 20000 w os).map (fun s => prtO prt1 (He.frG (HandSHeadRun.getT s) AS)) = some (prtV prt1) := by kernel_rfl
theorem g2 (w : World) (os : OsState) : (endR R 20000 w os).map (fun s => prtO prt2 (He.frG (HandSHeadRun.getT s) AS)) = some (prtV prt2) := by kernel_rfl
theorem g3 (w : World) (os : OsState) : (endR R 20000 w os).map (fun s => prtO prt3 (He.frG (HandSHeadRun.getT s) AS)) = some (prtV prt3) := by kernel_rfl
theorem gt (w : World) (os : OsState) : (endR R 20000 w os).map (fun s => [PT].map (HandSHeadRun.getT s)) = some ([PT].map fun _ => some (PySem.W.tabObj #[])) := by kernel_rfl
theorem run (w : World) : HandSHeadRun.RunEq R (view R.prog [83]) (hookT AS [PT] prts) (obT AS [PT] prts) 20000 names w :=
  run_partsT (h1 w) (h2 w) (h3 w) (h4 w) (h5 w) (fun os => parts_cons (g0 w os) (parts_cons (g1 w os) (parts_cons (g2 w os) (parts_cons (g3 w os) (parts_nil (h3 w os)))))) (fun os => gt w os)
end K02
open PySem PySem.W PySem.Calls PyProof.Rows
namespace K02
@[reducible] instance tbI : DL.Tb := DL.tbOf PT (("by_size" : PySem.Str) ++ ".<locals>." ++ "<lambda>")
end K02
theorem PySem.Challenge.cw_leastgates_k02_what_two_lots_save_holds : PySem.Challenge.rw_leastgates_k02_what_two_lots_save.Holds := by
  w_on; o_law
  refine HandSHeadRun.head_any (r := K02.R) (q := view K02.R.prog [83]) (H := DL.hookT K02.AS [K02.PT] K02.prts) (ob := DL.obT K02.AS [K02.PT] K02.prts) (M := 20000) (loose := K02.names) (d := HandSHeadRun.topDef K02.R.prog 83) (kwd := []) (DL.obT_eq K02.AS [K02.PT] K02.prts) (by kernel_rfl) (fun s => by kernel_rfl) K02.run (by kernel_rfl) (by kernel_rfl) (by kernel_rfl) (by rfl)
    (by first | assumption | decide +kernel) (by decide +kernel) ⟨rfl, rfl, rfl, rfl, rfl, by decide +kernel⟩ ?hw ?hc
  case hw => w_witness2
  case hc =>
    refine DL.walkTG (l := PySem.Challenge.rw_leastgates_k02_what_two_lots_save) (n := 63) (k := 10) (x := "_law_script") rfl (by decide) (by kernel_rfl) ⟨rfl, by decide, by decide⟩ ?F
    intro w mg fa h Y G e0
    obtain ⟨⟨K, X, c⟩, ht⟩ := Y
    have nm : (HandSHeadRun.topDef K02.R.prog 83).name = ("law" : PySem.Str) := by kernel_rfl
    rw [nm] at e0
    have e := e0.symm.trans (K02.law_at c X G)
    cases e
    obtain ⟨fd, hb, hF⟩ := K02.ok_law (P := PySem.Challenge.rw_leastgates_k02_what_two_lots_save.prog) (w := w) c X G ⟨rfl, fun b h => h, fun H b h => by cases h; exact Iff.rfl⟩
    exact ⟨K, fd, PL.spLaw K, DL.codeAd K "by_size", K02.PT, X, hb, ht _ (List.mem_singleton.mpr rfl), K02.tb_off c, PySem.W.codeHd_of_K X (K02.tb_head c), fun H a ns hl hT hS => ⟨a, ns, rfl, hS, hl, fun b hb => by cases hb; exact LamX.TabS.nil hT, fun _ => rfl⟩, fun base _ _ => hF base⟩
