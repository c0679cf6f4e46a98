import PyProof.Rows.All
import Wide.All
import OpenK.AllK
import Wide.FinOn
import HandS.ForMost
import HandS.Wide
import KE.KDictDisplayH
import KE.KDictPairs
import KE.KDictWalk
import HandS.TupAny
import HandS.DictEq
import KE.KDictKeyed
import PyProof.ReprReads
import KE.KEqNest
import HandS.Style
import HandS.Strs
import HandS.More
import HandS.Sort
import HandS.Zip
import KE.KDictZip
import KE.KDictOf
import HandS.TupMul
import HandS.RaiseMore
import HandS.IsInst
import KE.GoesEnum
import KE.GoesMore
import PyProof.EnumMake
import KE.SortData
import PyProof.P3In
import HandS.ExcInit
import HandS.ExcField
import HandS.ExcIs
import HandS.SortKw
import HandS.Conv
import KE.DataMinMax
import HandS.TryOnly
import HandS.RevRange
import HandS.Star
import HandS.DictComp
import HandS.TupLen
import KE.KDictCopyH
import PyProof.SumAny
import HandS.TupSets
import HandS.SetFor
import KE.GoesZip
import KE.DataMinKey
import PySem.Challenge.RW_sparehop_k11_medians_and_nearest_words
set_option Elab.async false
set_option linter.all false
set_option maxRecDepth 100000
namespace NoI
structure Sg where
  a : Nat
instance : Coe (List Nat) Sg := ⟨fun _ => ⟨0⟩⟩
structure Tg where
  p : Prop
def Wr (w : Tg) : Prop := w.p
theorem keep {p : Prop} (h : ∀ w : Tg, w.p = p → Wr w) (_ : ∀ q : Prop, False → q) : p := h ⟨p⟩ rfl
theorem wrOf {w : Tg} {p : Prop} (e : w.p = p) (h : p) : Wr w := e.mpr h
end NoI
/-! A layer of data over HandS: what a slot holds is told as a tree of data; lists that are still changed stand in numbered cells of their own. -/
namespace SH
open PySem PySem.Spec PyProof.Rows L2
/-- the world, for hashes -/
class WW where
  w : World
variable [WW]

abbrev D := PyData

/-! ### the frozen part of a heap -/
open Classical in
noncomputable def Fz (Z : Addr → Prop) (H : Hp) : Hp := fun a => if Z a then none else H a
theorem Fz_of {Z : Addr → Prop} {H : Hp} {a : Addr} {o : HO} (hz : ¬ Z a) (h : H a = some o) : Fz Z H a = some o := by
  unfold Fz; rw [if_neg hz]; exact h
theorem Fz_inv {Z : Addr → Prop} {H : Hp} {a : Addr} {o : HO} (h : Fz Z H a = some o) : ¬ Z a ∧ H a = some o := by
  unfold Fz at h
  split at h
  · cases h
  · exact ⟨‹_›, h⟩
/-- a dict: it may come to be locked -/
def Dc : HO → Bool
  | .dK _ => true
  | .ext _ => true
  | _ => false
/-- what is there stays; a dict may be locked meanwhile -/
def Same (H H' : Hp) : Prop := ∀ b o, H b = some o → H' b = some o ∨ (Dc o = true ∧ ∃ od, H' b = some (.frz od o))
theorem Same.of {H H' : Hp} (e : ∀ b o, H b = some o → H' b = some o) : Same H H' := fun b o h => .inl (e b o h)
theorem Same.nd {H H' : Hp} (e : Same H H') {b : Addr} {o : HO} (h : H b = some o) (n : Dc o = false) : H' b = some o := by
  rcases e b o h with q | ⟨q, _⟩
  · exact q
  · rw [n] at q; cases q
theorem Same.trans {H H1 H2 : Hp} (a : Same H H1) (b : Same H1 H2) : Same H H2 := fun c o h => by
  rcases a c o h with q | ⟨q, od, r⟩
  · exact b c o q
  · exact .inr ⟨q, od, b.nd r rfl⟩
theorem Same.ex {H H' : Hp} (e : Same H H') {b : Addr} {o : HO} (h : H b = some o) : H' b ≠ none := by
  rcases e b o h with q | ⟨_, od, q⟩ <;> (rw [q]; intro z; cases z)
theorem Same.seq {K : PySem.W.Frag} {H H' : Hp} {a : Addr} {xs : List V} (e : Same H H') (h : SqL K H a xs) : SqL K H' a xs := by
  rcases h with (h | ⟨o, h⟩) | h
  · exact .inl (.inl (e.nd h rfl))
  · exact .inl (.inr ⟨o, e.nd h rfl⟩)
  · exact .inr h
theorem Fz_le {Z : Addr → Prop} {H : Hp} : Same (Fz Z H) H := .of fun _ _ h => (Fz_inv h).2
theorem Fz_at {Z : Addr → Prop} {H : Hp} {a : Addr} {o : HO} (h : Fz Z H a = some o) : H a = some o := (Fz_inv h).2
theorem sqT_same {K : PySem.W.Frag} {H H' : Hp} {a : Addr} {xs : List V} (e : Same H H') (h : SqT K H a xs) : SqT K H' a xs := by
  rcases h with (h | ⟨o, h⟩) | h
  · exact .inl (.inl (e.nd h rfl))
  · exact .inl (.inr ⟨o, e.nd h rfl⟩)
  · exact .inr h
/-- a tuple of which all is known -/
def TupH (H : Hp) (a : Addr) (xs : List V) : Prop := ∃ o : Obj, o.dict = none ∧ H a = some (.frz o (.tup xs))
/-- strings alone: the tuple may be asked for places; of all others a key may be made -/
def strsD (ds : List D) : Bool := ds.all fun d => match d with
    | .str _ => true
    | _ => false
def TupD (H : Hp) (a : Addr) (xs : List V) (ds : List D) : Prop := (strsD ds = true ∧ TupH H a xs) ∨ (strsD ds = false ∧ H a = some (.tup xs))
theorem TupD.sq {K : PySem.W.Frag} {H : Hp} {a : Addr} {xs : List V} {ds : List D} (h : TupD H a xs ds) : SqT K H a xs := by
  rcases h with ⟨_, o, _, h⟩ | ⟨_, h⟩
  · exact .inl (.inr ⟨o, h⟩)
  · exact .inl (.inl h)
theorem TupD.same {H H' : Hp} {a : Addr} {xs : List V} {ds : List D} (h : TupD H a xs ds) (e : Same H H') : TupD H' a xs ds := by
  rcases h with ⟨h0, o, h1, h⟩ | ⟨h0, h⟩
  · exact .inl ⟨h0, o, h1, e.nd h rfl⟩
  · exact .inr ⟨h0, e.nd h rfl⟩
/-- a new tuple, tracked the one way or the other -/
def mkT (H : Hp) (xs : List V) (Q : VK) : Prop := (∀ p, H p = none → Q (.ref p) (upd H p (.tup xs))) ∨ (∀ (p : Addr) (o : Obj), o.dict = none → H p = none → Q (.ref p) (upd H p (.frz o (.tup xs))))
/-- a key as data -/
def kD : Key → D
  | .inl i => .int i
  | .inr x => .str x
/-- a dict whose keys are tuples: each key with its address, in order; a thing of its one object -/
def entX (y : NestedKey × Addr × Value) : DictEntry := ⟨y.1.hash WW.w, .ref y.2.1, y.2.2⟩
abbrev XE := NestedKey × Addr × V
abbrev XEs : List XE → List (NestedKey × Addr × Value) → Prop := Paired fun p q => p.1 = q.1 ∧ p.2.1 = q.2.1 ∧ RelV p.2.2 q.2.2
def DXp (a : Addr) (xs : List XE) : Heap → Prop := fun h => (xs.length ≤ sizeLine ∧ ∀ x ∈ xs, x.1.depth ≤ 8) ∧ (a == sysModules) = false ∧ ∃ ys, XEs xs ys ∧ ∃ o es ep, h.get? a = some o ∧ o.ExactDict ∧ o.data = .dict es ep ∧ es.toList = ys.map entX ∧ (ys.map (·.1)).Nodup
def DXo (a : Addr) (xs : List XE) : HO := .ext (DXp a xs)
theorem rd_same {H H' : Hp} {a : Addr} {u : HO} (r : Rd H a u) (e : Same H H') : Rd H' a u := by
  rcases r with r | ⟨o, r⟩
  · rcases e _ _ r with q | ⟨_, q⟩
    · exact .inl q
    · exact .inr q
  · exact .inr ⟨o, e.nd r rfl⟩
mutual
/-- a value that stands for a tree of data -/
inductive DV (K : PySem.W.Frag) (H : Hp) : V → D → Prop
  | non : DV K H .non .none
  | bl (b : Bool) : DV K H (.bl b) (.bool b)
  | int (i : Int) : DV K H (.int i) (.int i)
  | str (x : Str) : DV K H (.str x) (.str x)
  | lst {a : Addr} {xs : List V} {ds : List D} : H a = some (.lst xs) → DVs K H xs ds → DV K H (.ref a) (.list ds)
  | tup {a : Addr} {xs : List V} {ds : List D} : TupD H a xs ds → DVs K H xs ds → DV K H (.ref a) (.tuple ds)
  | dK {a : Addr} {kvs : List (Key × V)} {es : List (D × D)} : Rd H a (.dK kvs) → es.map (·.1) = kvs.map (fun p => kD p.1) → DVs K H (kvs.map (·.2)) (es.map (·.2)) → DV K H (.ref a) (.dict es)
  | dX {a : Addr} {xs : List XE} {es : List (D × D)} : Rd H a (DXo a xs) → DKs K H xs es → DV K H (.ref a) (.dict es)
inductive DVs (K : PySem.W.Frag) (H : Hp) : List V → List D → Prop
  | nil : DVs K H [] []
  | cons {v : V} {vs : List V} {d : D} {ds : List D} : DV K H v d → DVs K H vs ds → DVs K H (v :: vs) (d :: ds)
inductive DKs (K : PySem.W.Frag) (H : Hp) : List XE → List (D × D) → Prop
  | nil : DKs K H [] []
  | cons {k : NestedKey} {a : Addr} {v : V} {d : D} {xs : List XE} {es : List (D × D)} : DV K H (.ref a) k.data → DV K H v d → DKs K H xs es → DKs K H ((k, a, v) :: xs) ((k.data, d) :: es)
end
mutual
theorem dp_mono {K : PySem.W.Frag} {H H' : Hp} (e : Same H H') : ∀ (v : V) (d : D), DV K H v d → DV K H' v d
  | _, _, .non => .non
  | _, _, .bl b => .bl b
  | _, _, .int i => .int i
  | _, _, .str x => .str x
  | _, _, .lst h1 h2 => .lst (e.nd h1 rfl) (dpAll_mono e _ _ h2)
  | _, _, .tup h1 h2 => .tup (h1.same e) (dpAll_mono e _ _ h2)
  | _, _, .dK h1 h2 h3 => .dK (rd_same h1 e) h2 (dpAll_mono e _ _ h3)
  | _, _, .dX h1 h2 => .dX (rd_same h1 e) (dks_mono e _ _ h2)
theorem dpAll_mono {K : PySem.W.Frag} {H H' : Hp} (e : Same H H') : ∀ (vs : List V) (ds : List D), DVs K H vs ds → DVs K H' vs ds
  | _, _, .nil => .nil
  | _, _, .cons h1 h2 => .cons (dp_mono e _ _ h1) (dpAll_mono e _ _ h2)
theorem dks_mono {K : PySem.W.Frag} {H H' : Hp} (e : Same H H') : ∀ (xs : List XE) (es : List (D × D)), DKs K H xs es → DKs K H' xs es
  | _, _, .nil => .nil
  | _, _, .cons h1 h2 h3 => .cons (dp_mono e _ _ h1) (dp_mono e _ _ h2) (dks_mono e _ _ h3)
end
mutual
theorem dp_of {K : PySem.W.Frag} {H : Hp} : ∀ (v : V) (d : D), DV K H v d → d.hasDict = false → Dp K H v d
  | _, _, .non, _ => .non
  | _, _, .bl b, _ => .bl b
  | _, _, .int i, _ => .int i
  | _, _, .str x, _ => .str x
  | _, _, .lst h1 h2, h => .lst (SqL.of h1) (dpAll_of _ _ h2 (by simpa [PyData.hasDict] using h))
  | _, _, .tup h1 h2, h => .tup h1.sq (dpAll_of _ _ h2 (by simpa [PyData.hasDict] using h))
  | _, _, .dK h1 h2 h3, h => by simp [PyData.hasDict] at h
  | _, _, .dX h1 h2, h => by simp [PyData.hasDict] at h
theorem dpAll_of {K : PySem.W.Frag} {H : Hp} : ∀ (vs : List V) (ds : List D), DVs K H vs ds → PyData.hasDictAll ds = false → DpAll K H vs ds
  | _, _, .nil, _ => .nil
  | _, _, .cons h1 h2, h => by
    simp only [PyData.hasDictAll, Bool.or_eq_false_iff] at h
    exact .cons (dp_of _ _ h1 h.1) (dpAll_of _ _ h2 h.2)
end
section
variable {K : PySem.W.Frag} {H : Hp}
theorem dpAll_len : ∀ {vs : List V} {ds : List D}, DVs K H vs ds → vs.length = ds.length
  | _, _, .nil => rfl
  | _, _, .cons _ t => by simp [dpAll_len t]
theorem dpAll_get : ∀ {vs : List V} {ds : List D} {i : Nat} {d : D}, DVs K H vs ds → ds[i]? = some d → ∃ v, vs[i]? = some v ∧ DV K H v d
  | _, _, _, _, .nil, e => by simp at e
  | _, _, 0, _, .cons r _, e => by simp at e; subst e; exact ⟨_, rfl, r⟩
  | _, _, i + 1, d, .cons _ t, e => by
    obtain ⟨u, h1, h2⟩ := dpAll_get (i := i) (d := d) t (by simpa using e)
    exact ⟨u, by simpa using h1, h2⟩
theorem dpAll_get' : ∀ {vs : List V} {ds : List D} {i : Nat} {v : V}, DVs K H vs ds → vs[i]? = some v → ∃ d, ds[i]? = some d ∧ DV K H v d
  | _, _, _, _, .nil, e => by simp at e
  | _, _, 0, _, .cons r _, e => by simp at e; subst e; exact ⟨_, rfl, r⟩
  | _, _, i + 1, d, .cons _ t, e => by
    obtain ⟨u, h1, h2⟩ := dpAll_get' (i := i) (v := d) t (by simpa using e)
    exact ⟨u, by simpa using h1, h2⟩
theorem dpAll_append : ∀ {vs us : List V} {ds es : List D}, DVs K H vs ds → DVs K H us es → DVs K H (vs ++ us) (ds ++ es)
  | _, _, _, _, .nil, s => s
  | _, _, _, _, .cons r t, s => .cons r (dpAll_append t s)
theorem dpAll_take : ∀ {vs : List V} {ds : List D} (n : Nat), DVs K H vs ds → DVs K H (vs.take n) (ds.take n)
  | _, _, 0, _ => by simpa using DVs.nil
  | _, _, _ + 1, .nil => .nil
  | _, _, n + 1, .cons r t => .cons r (dpAll_take n t)
theorem dpAll_drop : ∀ {vs : List V} {ds : List D} (n : Nat), DVs K H vs ds → DVs K H (vs.drop n) (ds.drop n)
  | _, _, 0, h => h
  | _, _, _ + 1, .nil => .nil
  | _, _, n + 1, .cons _ t => dpAll_drop n t
theorem dpAll_set {v : V} {d : D} (r : DV K H v d) : ∀ {vs : List V} {ds : List D} (i : Nat), DVs K H vs ds → DVs K H (vs.set i v) (ds.set i d)
  | _, _, _, .nil => .nil
  | _, _, 0, .cons _ t => .cons r t
  | _, _, i + 1, .cons q t => .cons q (dpAll_set r i t)
theorem dpAll_ints : ∀ {vs : List V} {ns : List Int}, DVs K H vs (ns.map PyData.int) → vs = ns.map V.int
  | _, [], h => by cases h; rfl
  | _, n :: ns, h => by
    cases h with
    | cons h1 h2 => cases h1; rw [dpAll_ints h2]; rfl
theorem dpAll_strs : ∀ {vs : List V} {ns : List Str}, DVs K H vs (ns.map PyData.str) → vs = ns.map V.str
  | _, [], h => by cases h; rfl
  | _, n :: ns, h => by
    cases h with
    | cons h1 h2 => cases h1; rw [dpAll_strs h2]; rfl
theorem dpAll_bools : ∀ {vs : List V} {ns : List Bool}, DVs K H vs (ns.map PyData.bool) → vs = ns.map V.bl
  | _, [], h => by cases h; rfl
  | _, n :: ns, h => by
    cases h with
    | cons h1 h2 => cases h1; rw [dpAll_bools h2]; rfl
end

/-! ### states -/
inductive SV where
  | dat (d : D) | own (i : Nat) | ro (ns : List Int) | rng (lo hi : Int) | exn (a dx : Addr) (fs : List (Str × D)) | un
abbrev Mem := List (Option D)
structure S where
  sl : List SV
  mem : Mem
def Live (ad : List Addr) (m : Mem) (a : Addr) : Prop := ∃ (i : Nat) (d : D), m[i]? = some (some d) ∧ ad[i]? = some a
def ZZ (Zc : Addr → Prop) (ad : List Addr) (m : Mem) : Addr → Prop := fun a => Zc a ∨ Live ad m a
noncomputable abbrev FZ (Zc : Addr → Prop) (ad : List Addr) (m : Mem) (H : Hp) : Hp := Fz (ZZ Zc ad m) H

/-- an exception's fields, told -/
def XdR (K : PySem.W.Frag) (H : Hp) (dx : Addr) (fs : List (Str × D)) : Prop := ∃ fv : List (Str × V), H dx = some (.xd fv) ∧ fv.map (·.1) = fs.map (·.1) ∧ DVs K H (fv.map (·.2)) (fs.map (·.2))
theorem XdR.same {K : PySem.W.Frag} {H H' : Hp} {dx : Addr} {fs : List (Str × D)} (h : XdR K H dx fs) (e : Same H H') : XdR K H' dx fs := by
  obtain ⟨fv, h1, h2, h3⟩ := h
  exact ⟨fv, e.nd h1 rfl, h2, dpAll_mono e _ _ h3⟩
def VR (K : PySem.W.Frag) (Zc : Addr → Prop) (ad : List Addr) (m : Mem) (H : Hp) (v : V) : SV → Prop
  | .dat d => DV K (FZ Zc ad m H) v d
  | .own i => i < m.length ∧ ∃ a, ad[i]? = some a ∧ v = .ref a
  | .ro ns => ∃ a, v = .ref a ∧ SqL K (FZ Zc ad m H) a (ns.map V.int)
  | .rng lo hi => ∃ a, v = .ref a ∧ FZ Zc ad m H a = some (.rng lo hi)
  | .exn a dx fs => v = .ref a ∧ XdR K (FZ Zc ad m H) dx fs
  | .un => False
def OR (K : PySem.W.Frag) (Zc : Addr → Prop) (ad : List Addr) (m : Mem) (H : Hp) (o : Option V) (sv : SV) : Prop :=
  sv = .un ∨ ∃ v, o = some v ∧ VR K Zc ad m H v sv
/-- what stands in a cell -/
inductive Cell (K : PySem.W.Frag) (H : Hp) (a : Addr) : HO → D → Prop
  | lst {vs : List V} {ds : List D} : DVs K H vs ds → Cell K H a (.lst vs) (.list ds)
  | dK {kvs : List (Key × V)} {es : List (D × D)} : es.map (·.1) = kvs.map (fun p => kD p.1) → DVs K H (kvs.map (·.2)) (es.map (·.2)) → Cell K H a (.dK kvs) (.dict es)
  | dX {xs : List XE} {es : List (D × D)} : DKs K H xs es → Cell K H a (DXo a xs) (.dict es)
theorem Cell.mono {K : PySem.W.Frag} {H H' : Hp} {o : HO} {d : D} {a : Addr} (h : Cell K H a o d) (e : Same H H') : Cell K H' a o d := by
  cases h with
  | lst h => exact .lst (dpAll_mono e _ _ h)
  | dK h1 h2 => exact .dK h1 (dpAll_mono e _ _ h2)
  | dX h1 => exact .dX (dks_mono e _ _ h1)
theorem Cell.dv {K : PySem.W.Frag} {H : Hp} {o : HO} {d : D} {a : Addr} (h : Cell K H a o d) (e : H a = some o) : DV K H (.ref a) d := by
  cases h with
  | lst h => exact .lst e h
  | dK h1 h2 => exact .dK (.inl e) h1 h2
  | dX h1 => exact .dX (.inl e) h1
structure MR (K : PySem.W.Frag) (Zc : Addr → Prop) (ad : List Addr) (H : Hp) (m : Mem) : Prop where
  cell : ∀ (i : Nat) (d : D), m[i]? = some (some d) → ∃ a o, ad[i]? = some a ∧ H a = some o ∧ Cell K (FZ Zc ad m H) a o d
  inj : ∀ (i j : Nat) (a : Addr) (ds es : D), m[i]? = some (some ds) → m[j]? = some (some es) → ad[i]? = some a → ad[j]? = some a → i = j
  zd : ∀ a, Zc a → ¬ Live ad m a
  zt : ∀ a, Zc a → H a ≠ none
  adl : m.length ≤ ad.length
structure SR (K : PySem.W.Frag) (Zc : Addr → Prop) (ad : List Addr) (H : Hp) (σ : L2.St) (s : S) : Prop where
  len : σ.length = s.sl.length
  slot : ∀ (i : Nat) (sv : SV), s.sl[i]? = some sv → ∃ o, σ[i]? = some o ∧ OR K Zc ad s.mem H o sv
  mr : MR K Zc ad H s.mem
structure Frm (Zc : Addr → Prop) (n : Nat) (ad : List Addr) (m : Mem) (H : Hp) (ad' : List Addr) (m' : Mem) (H' : Hp) : Prop where
  keep : ∀ a o, H a = some o → ¬ Live ad m a → H' a = some o ∨ (¬ Zc a ∧ Dc o = true ∧ ∃ od, H' a = some (.frz od o))
  new : ∀ a, Live ad' m' a → Live ad m a ∨ H a = none
  pre : ∀ i, i < n → ad'[i]? = ad[i]?
  le : n ≤ m'.length

section
variable {K : PySem.W.Frag} {Zc : Addr → Prop} {ad ad' ad2 : List Addr} {H H' H2 : Hp} {m m' m2 : Mem} {σ σ' : L2.St} {s s' : S} {n : Nat}
theorem Frm.refl (h : n ≤ m.length) : Frm Zc n ad m H ad m H := ⟨fun _ _ h _ => .inl h, fun _ h => .inl h, fun _ _ => rfl, h⟩
theorem Frm.trans {k : Nat} (a : Frm Zc n ad m H ad' m' H') (b : Frm Zc k ad' m' H' ad2 m2 H2) (hk : n ≤ k) : Frm Zc n ad m H ad2 m2 H2 := by
  refine NoI.keep (fun _ wNoI => ?_) ?_
  simp only [↓ NoI.wrOf wNoI (by
  clear wNoI
  refine ⟨fun c o h hl => ?_, fun c h => ?_, fun i hi => ?_, Nat.le_trans hk b.le⟩
  · have nl : ¬ Live ad' m' c := fun h' => by
      rcases a.new c h' with q | q
      · exact hl q
      · rw [q] at h; cases h
    rcases a.keep c o h hl with q | ⟨q1, q2, od, q3⟩
    · exact b.keep c o q nl
    · rcases b.keep c _ q3 nl with r | ⟨_, r, _⟩
      · exact .inr ⟨q1, q2, od, r⟩
      · cases r
  · rcases b.new c h with q | q
    · exact a.new c q
    · by_cases hl : Live ad m c
      · exact .inl hl
      · right
        cases e : H c with
        | none => rfl
        | some o => rcases a.keep c o e hl with r | ⟨_, _, od, r⟩ <;> (rw [r] at q; cases q)
  · rw [b.pre i (Nat.lt_of_lt_of_le hi hk), a.pre i hi]
  )]
  intro _ hNoI
  simpa using (fun (_ : NoI.Sg) => hNoI) [5]
theorem Frm.less {k : Nat} (a : Frm Zc n ad m H ad' m' H') (hk : k ≤ n) : Frm Zc k ad m H ad' m' H' := ⟨a.keep, a.new, fun i hi => a.pre i (Nat.lt_of_lt_of_le hi hk), Nat.le_trans hk a.le⟩
theorem Frm.same (a : Frm Zc n ad m H ad' m' H') : Same (FZ Zc ad m H) (FZ Zc ad' m' H') := fun c o h => by
  obtain ⟨h1, h2⟩ := Fz_inv h
  have nz : ¬ ZZ Zc ad' m' c := fun q => by
    rcases q with q | q
    · exact h1 (.inl q)
    · rcases a.new c q with r | r
      · exact h1 (.inr r)
      · rw [r] at h2; cases h2
  rcases a.keep c o h2 fun q => h1 (.inr q) with q | ⟨_, q, od, r⟩
  · exact .inl (Fz_of nz q)
  · exact .inr ⟨q, od, Fz_of nz r⟩
theorem VR.frm {v : V} {sv : SV} (h : VR K Zc ad m H v sv) (a : Frm Zc m.length ad m H ad' m' H') : VR K Zc ad' m' H' v sv := by
  refine NoI.keep (fun _ wNoI => ?_) ?_
  simp only [↓ NoI.wrOf wNoI (by
  clear wNoI
  cases sv with
  | dat d => exact dp_mono a.same _ _ h
  | own i =>
    obtain ⟨h1, b, h2, h3⟩ := h
    exact ⟨Nat.lt_of_lt_of_le h1 a.le, b, by rw [a.pre i h1, h2], h3⟩
  | ro ns =>
    obtain ⟨b, h1, h2⟩ := h
    exact ⟨b, h1, a.same.seq h2⟩
  | rng lo hi =>
    obtain ⟨b, h1, h2⟩ := h
    exact ⟨b, h1, a.same.nd h2 rfl⟩
  | exn x dx fs => exact ⟨h.1, h.2.same a.same⟩
  | un => exact h
  )]
  intro _ hNoI
  simpa using (fun (_ : NoI.Sg) => hNoI) [5]
theorem OR.frm {o : Option V} {sv : SV} (h : OR K Zc ad m H o sv) (a : Frm Zc m.length ad m H ad' m' H') : OR K Zc ad' m' H' o sv :=
  h.imp id fun ⟨v, e, q⟩ => ⟨v, e, q.frm a⟩
theorem MR.fresh (h : MR K Zc ad H m) {p : Addr} (hp : H p = none) : ¬ ZZ Zc ad m p := by
  rintro (q | ⟨i, ds, h1, h2⟩)
  · exact h.zt p q hp
  · obtain ⟨a, vs, e1, e2, _⟩ := h.cell i ds h1
    rw [h2] at e1; cases e1
    rw [e2] at hp; cases hp
/-- a new object that is not changed any more -/
theorem Frm.newT {p : Addr} {o : HO} (hp : H p = none) : Frm Zc m.length ad m H ad m (upd H p o) :=
  ⟨fun a x e _ => .inl (by rw [upd_ne (ne_of_none e hp)]; exact e), fun _ h => .inl h, fun _ _ => rfl, Nat.le_refl _⟩
theorem MR.newT (h : MR K Zc ad H m) {p : Addr} {o : HO} (hp : H p = none) : MR K Zc ad (upd H p o) m := by
  refine NoI.keep (fun _ wNoI => ?_) ?_
  simp only [↓ NoI.wrOf wNoI (by
  clear wNoI
  have F : Frm Zc m.length ad m H ad m (upd H p o) := Frm.newT hp
  refine ⟨fun i ds e => ?_, h.inj, h.zd, fun a q e => ?_, h.adl⟩
  · obtain ⟨a, vs, e1, e2, e3⟩ := h.cell i ds e
    exact ⟨a, vs, e1, by rw [upd_ne (ne_of_none e2 hp)]; exact e2, e3.mono F.same⟩
  · have := h.zt a q
    unfold upd at e
    split at e
    · cases e
    · exact this e
  )]
  intro _ hNoI
  simpa using (fun (_ : NoI.Sg) => hNoI) [5]
theorem SR.newT (h : SR K Zc ad H σ s) {p : Addr} {o : HO} (hp : H p = none) : SR K Zc ad (upd H p o) σ s :=
  ⟨h.len, fun i sv e => by
    obtain ⟨x, e1, e2⟩ := h.slot i sv e
    exact ⟨x, e1, e2.frm (Frm.newT hp)⟩, h.mr.newT hp⟩
theorem MR.newT_at (h : MR K Zc ad H m) {p : Addr} {o : HO} (hp : H p = none) : FZ Zc ad m (upd H p o) p = some o := Fz_of (h.fresh hp) upd_same

/-! a new object in a cell of its own -/
def adN (ad : List Addr) (m : Mem) (p : Addr) : List Addr := ad.take m.length ++ [p]
theorem adN_lt (hl : m.length ≤ ad.length) {p : Addr} {i : Nat} (h : i < m.length) : (adN ad m p)[i]? = ad[i]? := by
  unfold adN
  rw [List.getElem?_append_left (by rw [List.length_take]; omega), List.getElem?_take, if_pos h]
theorem adN_at (hl : m.length ≤ ad.length) {p : Addr} : (adN ad m p)[m.length]? = some p := by
  unfold adN
  rw [List.getElem?_append_right (by rw [List.length_take]; omega), List.length_take, Nat.min_eq_left hl, Nat.sub_self]
  rfl

theorem live_adN (hl : m.length ≤ ad.length) {p : Addr} {ds : D} {a : Addr} : Live (adN ad m p) (m ++ [some ds]) a ↔ Live ad m a ∨ a = p := by
  refine NoI.keep (fun _ wNoI => ?_) ?_
  simp only [↓ NoI.wrOf wNoI (by
  clear wNoI
  constructor
  · rintro ⟨i, es, h1, h2⟩
    by_cases hi : i < m.length
    · rw [List.getElem?_append_left hi] at h1
      rw [adN_lt hl hi] at h2
      exact .inl ⟨i, es, h1, h2⟩
    · have hj : i = m.length := by
        have := (List.getElem?_eq_some_iff.mp h1).1
        rw [List.length_append] at this
        simp at this
        omega
      subst hj
      rw [adN_at hl] at h2
      cases h2
      exact .inr rfl
  · rintro (⟨i, es, h1, h2⟩ | rfl)
    · have hi := (List.getElem?_eq_some_iff.mp h1).1
      exact ⟨i, es, by rw [List.getElem?_append_left hi]; exact h1, by rw [adN_lt hl hi]; exact h2⟩
    · exact ⟨m.length, ds, by simp, adN_at hl⟩
  )]
  intro _ hNoI
  simpa using (fun (_ : NoI.Sg) => hNoI) [5]
theorem Frm.newO (h : MR K Zc ad H m) {p : Addr} {o : HO} {ds : D} (hp : H p = none) : Frm Zc m.length ad m H (adN ad m p) (m ++ [some ds]) (upd H p o) := by
  refine NoI.keep (fun _ wNoI => ?_) ?_
  simp only [↓ NoI.wrOf wNoI (by
  clear wNoI
  refine ⟨fun a x e _ => .inl (by rw [upd_ne (ne_of_none e hp)]; exact e), fun a q => ?_, fun i hi => adN_lt h.adl hi, by simp⟩
  rcases (live_adN h.adl).mp q with q | rfl
  · exact .inl q
  · exact .inr hp
  )]
  intro _ hNoI
  simpa using (fun (_ : NoI.Sg) => hNoI) [5]
theorem MR.newO (h : MR K Zc ad H m) {p : Addr} {u : HO} {ds : D} (hp : H p = none) (hv : Cell K (FZ Zc ad m H) p u ds) : MR K Zc (adN ad m p) (upd H p u) (m ++ [some ds]) := by
  refine NoI.keep (fun _ wNoI => ?_) ?_
  simp only [↓ NoI.wrOf wNoI (by
  clear wNoI
  have F : Frm Zc m.length ad m H (adN ad m p) (m ++ [some ds]) (upd H p u) := Frm.newO h hp
  refine ⟨fun i es e => ?_, fun i j a es fs e1 e2 a1 a2 => ?_, fun a q r => ?_, fun a q e => ?_, ?_⟩
  · by_cases hi : i < m.length
    · rw [List.getElem?_append_left hi] at e
      obtain ⟨a, us, e1, e2, e3⟩ := h.cell i es e
      exact ⟨a, us, by rw [adN_lt h.adl hi]; exact e1, by rw [upd_ne (ne_of_none e2 hp)]; exact e2, e3.mono F.same⟩
    · have hj : i = m.length := by
        have := (List.getElem?_eq_some_iff.mp e).1
        rw [List.length_append] at this
        simp at this
        omega
      subst hj
      simp at e
      subst e
      exact ⟨p, u, adN_at h.adl, upd_same, hv.mono F.same⟩
  · have old : ∀ {i : Nat} {gs : D}, (m ++ [some ds])[i]? = some (some gs) → (adN ad m p)[i]? = some a → (i < m.length ∧ m[i]? = some (some gs) ∧ ad[i]? = some a ∧ a ≠ p) ∨ (i = m.length ∧ a = p) := by
      intro i gs e1 e2
      by_cases hi : i < m.length
      · rw [List.getElem?_append_left hi] at e1
        rw [adN_lt h.adl hi] at e2
        obtain ⟨b, us, q1, q2, _⟩ := h.cell i gs e1
        rw [e2] at q1; cases q1
        exact .inl ⟨hi, e1, e2, ne_of_none q2 hp⟩
      · have hj : i = m.length := by
          have := (List.getElem?_eq_some_iff.mp e1).1
          rw [List.length_append] at this
          simp at this
          omega
        subst hj
        rw [adN_at h.adl] at e2
        cases e2
        exact .inr ⟨rfl, rfl⟩
    rcases old e1 a1 with ⟨_, q1, q2, q3⟩ | ⟨r1, r2⟩ <;> rcases old e2 a2 with ⟨_, t1, t2, t3⟩ | ⟨u1, u2⟩
    · exact h.inj i j a es fs q1 t1 q2 t2
    · exact absurd u2 q3
    · exact absurd r2 t3
    · rw [r1, u1]
  · rcases (live_adN h.adl).mp r with r | rfl
    · exact h.zd a q r
    · exact h.zt _ q hp
  · have := h.zt a q
    unfold upd at e
    split at e
    · cases e
    · exact this e
  · unfold adN
    simp [Nat.min_eq_left h.adl]
  )]
  intro _ hNoI
  simpa using (fun (_ : NoI.Sg) => hNoI) [5]
theorem SR.newO (h : SR K Zc ad H σ s) {p : Addr} {u : HO} {ds : D} (hp : H p = none) (hv : Cell K (FZ Zc ad s.mem H) p u ds) : SR K Zc (adN ad s.mem p) (upd H p u) σ ⟨s.sl, s.mem ++ [some ds]⟩ :=
  ⟨h.len, fun i sv e => by
    obtain ⟨x, e1, e2⟩ := h.slot i sv e
    exact ⟨x, e1, e2.frm (Frm.newO h.mr hp)⟩, h.mr.newO hp hv⟩
theorem VR.newO (h : MR K Zc ad H m) {p : Addr} {o : HO} {ds : D} : VR K Zc (adN ad m p) (m ++ [some ds]) (upd H p o) (.ref p) (.own m.length) :=
  ⟨by simp, p, adN_at h.adl, rfl⟩

/-! a cell is given up: what it holds will not be changed any more -/
theorem get_set_none {i j : Nat} {ds : D} : (m.set i none)[j]? = some (some ds) ↔ j ≠ i ∧ m[j]? = some (some ds) := by
  refine NoI.keep (fun _ wNoI => ?_) ?_
  simp only [↓ NoI.wrOf wNoI (by
  clear wNoI
  rw [List.getElem?_set]
  by_cases e : i = j
  · subst e
    rw [if_pos rfl]
    constructor
    · intro h; split at h <;> cases h
    · intro h; exact absurd rfl h.1
  · rw [if_neg e]
    exact ⟨fun h => ⟨fun q => e q.symm, h⟩, fun h => h.2⟩
  )]
  intro _ hNoI
  simpa using (fun (_ : NoI.Sg) => hNoI) [5]
theorem live_none {i : Nat} {a : Addr} (h : Live ad (m.set i none) a) : Live ad m a := by
  obtain ⟨j, ds, h1, h2⟩ := h
  exact ⟨j, ds, (get_set_none.mp h1).2, h2⟩
theorem Frm.drop {i : Nat} : Frm Zc m.length ad m H ad (m.set i none) H := ⟨fun _ _ h _ => .inl h, fun _ h => .inl (live_none h), fun _ _ => rfl, by simp⟩
theorem MR.drop {i : Nat} (h : MR K Zc ad H m) : MR K Zc ad H (m.set i none) := by
  refine NoI.keep (fun _ wNoI => ?_) ?_
  simp only [↓ NoI.wrOf wNoI (by
  clear wNoI
  refine ⟨fun j ds e => ?_, fun j k a ds es e1 e2 a1 a2 => h.inj j k a ds es (get_set_none.mp e1).2 (get_set_none.mp e2).2 a1 a2, fun a q r => h.zd a q (live_none r), h.zt, by rw [List.length_set]; exact h.adl⟩
  obtain ⟨a, vs, q1, q2, q3⟩ := h.cell j ds (get_set_none.mp e).2
  exact ⟨a, vs, q1, q2, q3.mono (Frm.drop (i := i)).same⟩
  )]
  intro _ hNoI
  simpa using (fun (_ : NoI.Sg) => hNoI) [5]
theorem MR.drop_at {i : Nat} {ds : D} {a : Addr} (h : MR K Zc ad H m) (e : m[i]? = some (some ds)) (ha : ad[i]? = some a) : DV K (FZ Zc ad (m.set i none) H) (.ref a) ds := by
  refine NoI.keep (fun _ wNoI => ?_) ?_
  simp only [↓ NoI.wrOf wNoI (by
  clear wNoI
  obtain ⟨b, vs, q1, q2, q3⟩ := h.cell i ds e
  rw [ha] at q1; cases q1
  refine (q3.mono (Frm.drop (i := i)).same).dv (Fz_of (fun q => ?_) q2)
  rcases q with q | ⟨j, es, r1, r2⟩
  · exact h.zd a q ⟨i, ds, e, ha⟩
  · obtain ⟨t1, t2⟩ := get_set_none.mp r1
    exact t1 (h.inj j i a es ds t2 e r2 ha)
  )]
  intro _ hNoI
  simpa using (fun (_ : NoI.Sg) => hNoI) [5]
end
def SV.fz (i : Nat) (ds : D) : SV → SV
  | .own j => match Nat.beq j i with
    | true => .dat ds
    | false => .own j
  | sv => sv
def S.fz (s : S) (i : Nat) (ds : D) : S := ⟨s.sl.map (SV.fz i ds), s.mem.set i none⟩
section
variable {K : PySem.W.Frag} {Zc : Addr → Prop} {ad ad' ad2 : List Addr} {H H' H2 : Hp} {m m' m2 : Mem} {σ σ' : L2.St} {s s' : S} {n : Nat}
theorem VR.fz {i : Nat} {ds : D} (h : MR K Zc ad H m) (e : m[i]? = some (some ds)) {v : V} {sv : SV} (r : VR K Zc ad m H v sv) : VR K Zc ad (m.set i none) H v (sv.fz i ds) := by
  refine NoI.keep (fun _ wNoI => ?_) ?_
  simp only [↓ NoI.wrOf wNoI (by
  clear wNoI
  cases sv with
  | dat d => exact VR.frm (sv := .dat d) r Frm.drop
  | own j =>
    unfold SV.fz
    obtain ⟨h1, a, h2, rfl⟩ := r
    by_cases q : Nat.beq j i = true
    · have : j = i := Nat.eq_of_beq_eq_true q
      subst this
      simp only [q]
      exact h.drop_at e h2
    · have : Nat.beq j i = false := by
        cases z : Nat.beq j i with
        | true => exact absurd z q
        | false => rfl
      simp only [this]
      exact ⟨by simpa using h1, a, h2, rfl⟩
  | ro ns => exact VR.frm (sv := .ro ns) r Frm.drop
  | rng lo hi => exact VR.frm (sv := .rng lo hi) r Frm.drop
  | exn x dx fs => exact VR.frm (sv := .exn x dx fs) r Frm.drop
  | un => exact r
  )]
  intro _ hNoI
  simpa using (fun (_ : NoI.Sg) => hNoI) [5]
theorem SR.fz {i : Nat} {ds : D} (h : SR K Zc ad H σ s) (e : s.mem[i]? = some (some ds)) : SR K Zc ad H σ (s.fz i ds) := by
  refine NoI.keep (fun _ wNoI => ?_) ?_
  simp only [↓ NoI.wrOf wNoI (by
  clear wNoI
  refine ⟨by simpa [S.fz] using h.len, fun j sv q => ?_, h.mr.drop⟩
  simp only [S.fz, List.getElem?_map] at q
  cases q0 : s.sl[j]? with
  | none => rw [q0] at q; cases q
  | some sv0 =>
    rw [q0] at q
    simp only [Option.map_some, Option.some.injEq] at q
    subst q
    obtain ⟨o, r1, r2⟩ := h.slot j sv0 q0
    refine ⟨o, r1, ?_⟩
    rcases r2 with rfl | ⟨v, r3, r4⟩
    · exact .inl rfl
    · exact .inr ⟨v, r3, VR.fz h.mr e r4⟩
  )]
  intro _ hNoI
  simpa using (fun (_ : NoI.Sg) => hNoI) [5]
structure Wk (s s' : S) : Prop where
  len : s'.sl.length = s.sl.length
  sl : ∀ (i : Nat) (sv : SV), s'.sl[i]? = some sv → sv = .un ∨ (s.sl[i]? = some sv ∧ ∀ j, sv = .own j → j < s'.mem.length)
  le : s'.mem.length ≤ s.mem.length
  mem : ∀ (i : Nat) (ds : D), s'.mem[i]? = some (some ds) → s.mem[i]? = some (some ds)
theorem Wk.live (w : Wk s s') {a : Addr} (h : Live ad s'.mem a) : Live ad s.mem a := by
  obtain ⟨i, ds, h1, h2⟩ := h
  exact ⟨i, ds, w.mem i ds h1, h2⟩
theorem Wk.frm (w : Wk s s') (hn : n ≤ s'.mem.length) : Frm Zc n ad s.mem H ad s'.mem H := ⟨fun _ _ h _ => .inl h, fun _ h => .inl (w.live h), fun _ _ => rfl, hn⟩
theorem SR.wk (h : SR K Zc ad H σ s) (w : Wk s s') : SR K Zc ad H σ s' := by
  refine NoI.keep (fun _ wNoI => ?_) ?_
  simp only [↓ NoI.wrOf wNoI (by
  clear wNoI
  have F : Frm Zc s'.mem.length ad s.mem H ad s'.mem H := w.frm (Nat.le_refl _)
  refine ⟨by rw [w.len]; exact h.len, fun i sv e => ?_, ⟨fun i ds e => ?_, fun i j a ds es e1 e2 a1 a2 => h.mr.inj i j a ds es (w.mem i ds e1) (w.mem j es e2) a1 a2, fun a q r => h.mr.zd a q (w.live r), h.mr.zt, Nat.le_trans w.le h.mr.adl⟩⟩
  · rcases w.sl i sv e with rfl | ⟨q1, q2⟩
    · have hi : i < σ.length := by rw [h.len, ← w.len]; exact (List.getElem?_eq_some_iff.mp e).1
      exact ⟨σ[i], List.getElem?_eq_getElem hi, .inl rfl⟩
    · obtain ⟨o, r1, r2⟩ := h.slot i sv q1
      refine ⟨o, r1, ?_⟩
      rcases r2 with rfl | ⟨v, r3, r4⟩
      · exact .inl rfl
      · refine .inr ⟨v, r3, ?_⟩
        cases sv with
        | dat d => exact dp_mono F.same _ _ r4
        | own k => obtain ⟨r4, r5⟩ := r4; exact ⟨q2 k rfl, r5⟩
        | ro ns => obtain ⟨b, r5, r6⟩ := r4; exact ⟨b, r5, F.same.seq r6⟩
        | rng lo hi => obtain ⟨b, r5, r6⟩ := r4; exact ⟨b, r5, F.same.nd r6 rfl⟩
        | exn x dx fs => exact ⟨r4.1, r4.2.same F.same⟩
        | un => exact r4
  · obtain ⟨a, vs, q1, q2, q3⟩ := h.mr.cell i ds (w.mem i ds e)
    exact ⟨a, vs, q1, q2, q3.mono F.same⟩
  )]
  intro _ hNoI
  simpa using (fun (_ : NoI.Sg) => hNoI) [5]
/-- a cell's list is changed -/
theorem live_set {i : Nat} {ds es : D} (e : m[i]? = some (some ds)) {a : Addr} : Live ad (m.set i (some es)) a ↔ Live ad m a := by
  refine NoI.keep (fun _ wNoI => ?_) ?_
  simp only [↓ NoI.wrOf wNoI (by
  clear wNoI
  have hi := (List.getElem?_eq_some_iff.mp e).1
  constructor
  · rintro ⟨j, fs, h1, h2⟩
    by_cases q : i = j
    · subst q; exact ⟨i, ds, e, h2⟩
    · rw [List.getElem?_set_ne q] at h1; exact ⟨j, fs, h1, h2⟩
  · rintro ⟨j, fs, h1, h2⟩
    by_cases q : i = j
    · subst q; exact ⟨i, es, by rw [List.getElem?_set_self hi], h2⟩
    · exact ⟨j, fs, by rw [List.getElem?_set_ne q]; exact h1, h2⟩
  )]
  intro _ hNoI
  simpa using (fun (_ : NoI.Sg) => hNoI) [5]
theorem fz_set {i : Nat} {ds es : D} {a : Addr} {o : HO} (e : m[i]? = some (some ds)) (ha : ad[i]? = some a) : FZ Zc ad (m.set i (some es)) (upd H a o) = FZ Zc ad m H := by
  refine NoI.keep (fun _ wNoI => ?_) ?_
  simp only [↓ NoI.wrOf wNoI (by
  clear wNoI
  funext b
  have hz : ∀ b, ZZ Zc ad (m.set i (some es)) b ↔ ZZ Zc ad m b := fun b => or_congr Iff.rfl (live_set e)
  have la : ZZ Zc ad m a := .inr ⟨i, ds, e, ha⟩
  unfold FZ Fz
  by_cases q : ZZ Zc ad m b
  · rw [if_pos q, if_pos ((hz b).mpr q)]
  · rw [if_neg q, if_neg fun z => q ((hz b).mp z), upd_ne (show b ≠ a from fun z => q (by rw [z]; exact la))]
  )]
  intro _ hNoI
  simpa using (fun (_ : NoI.Sg) => hNoI) [5]
theorem MR.put {i : Nat} {ds es : D} {a : Addr} {u : HO} (h : MR K Zc ad H m) (e : m[i]? = some (some ds)) (ha : ad[i]? = some a) (hv : Cell K (FZ Zc ad m H) a u es) : MR K Zc ad (upd H a u) (m.set i (some es)) := by
  refine NoI.keep (fun _ wNoI => ?_) ?_
  simp only [↓ NoI.wrOf wNoI (by
  clear wNoI
  have hi := (List.getElem?_eq_some_iff.mp e).1
  have un : ∀ {j : Nat} {fs : D}, (m.set i (some es))[j]? = some (some fs) → ∃ gs, m[j]? = some (some gs) := fun {j fs} q => by
    by_cases z : i = j
    · subst z; exact ⟨ds, e⟩
    · rw [List.getElem?_set_ne z] at q; exact ⟨fs, q⟩
  refine ⟨fun j fs q => ?_, fun j k b fs gs e1 e2 a1 a2 => ?_, fun b q r => h.zd b q ((live_set e).mp r), fun b q z => ?_, by rw [List.length_set]; exact h.adl⟩
  · rw [fz_set e ha]
    by_cases z : i = j
    · subst z
      rw [List.getElem?_set_self hi] at q
      simp at q
      subst q
      exact ⟨a, u, ha, upd_same, hv⟩
    · rw [List.getElem?_set_ne z] at q
      obtain ⟨b, us, q1, q2, q3⟩ := h.cell j fs q
      refine ⟨b, us, q1, ?_, q3⟩
      rw [upd_ne (show b ≠ a from fun y => z (h.inj i j a ds fs e q ha (by rw [← y]; exact q1)))]
      exact q2
  · obtain ⟨x1, y1⟩ := un e1
    obtain ⟨x2, y2⟩ := un e2
    exact h.inj j k b x1 x2 y1 y2 a1 a2
  · have := h.zt b q
    unfold upd at z
    split at z
    · cases z
    · exact this z
  )]
  intro _ hNoI
  simpa using (fun (_ : NoI.Sg) => hNoI) [5]
theorem Frm.put {i : Nat} {ds es : D} {a : Addr} {o : HO} (e : m[i]? = some (some ds)) (ha : ad[i]? = some a) : Frm Zc m.length ad m H ad (m.set i (some es)) (upd H a o) :=
  ⟨fun b x q r => .inl (by rw [upd_ne (show b ≠ a from fun z => r (by rw [z]; exact ⟨i, ds, e, ha⟩))]; exact q), fun b q => .inl ((live_set e).mp q), fun _ _ => rfl, by simp⟩
theorem SR.put {i : Nat} {ds es : D} {a : Addr} {u : HO} (h : SR K Zc ad H σ s) (e : s.mem[i]? = some (some ds)) (ha : ad[i]? = some a) (hv : Cell K (FZ Zc ad s.mem H) a u es) : SR K Zc ad (upd H a u) σ ⟨s.sl, s.mem.set i (some es)⟩ :=
  ⟨h.len, fun j sv q => by
    obtain ⟨x, e1, e2⟩ := h.slot j sv q
    exact ⟨x, e1, e2.frm (Frm.put e ha)⟩, h.mr.put e ha hv⟩
theorem SR.set {i : Nat} {v : V} {sv : SV} (h : SR K Zc ad H σ s) (r : VR K Zc ad s.mem H v sv) : SR K Zc ad H (σ.set i (some v)) ⟨s.sl.set i sv, s.mem⟩ := by
  refine NoI.keep (fun _ wNoI => ?_) ?_
  simp only [↓ NoI.wrOf wNoI (by
  clear wNoI
  refine ⟨by simpa using h.len, fun j tv q => ?_, h.mr⟩
  have q : (s.sl.set i sv)[j]? = some tv := q
  rw [List.getElem?_set] at q
  rw [List.getElem?_set]
  by_cases e : i = j
  · rw [if_pos e] at q ⊢
    split at q
    · rename_i hj
      cases q
      exact ⟨some v, by rw [if_pos (by rw [h.len]; exact hj)], .inr ⟨v, rfl, r⟩⟩
    · cases q
  · rw [if_neg e] at q ⊢
    exact h.slot j tv q
  )]
  intro _ hNoI
  simpa using (fun (_ : NoI.Sg) => hNoI) [5]
end
end SH

namespace SH
open PySem PySem.Spec PyProof.Rows L2
variable [WW]

/-! ### readings of data -/
def Post (K : PySem.W.Frag) (Zc : Addr → Prop) (ad : List Addr) (H : Hp) (σ : L2.St) (s : S) (Φ : SV → S → Prop) (Q : VK) : Prop :=
  ∀ v ad' H' sv s', Φ sv s' → SR K Zc ad' H' σ s' → Frm Zc s.mem.length ad s.mem H ad' s'.mem H' → VR K Zc ad' s'.mem H' v sv → Q v H'
def EvS (K : PySem.W.Frag) (Zc : Addr → Prop) (t : TE) (s : S) (Φ : SV → S → Prop) : Prop :=
  ∀ ad H σ Q, SR K Zc ad H σ s → Post K Zc ad H σ s Φ Q → t σ H Q
def OpS (K : PySem.W.Frag) (Zc : Addr → Prop) (r : R2) (x y : SV) (s : S) (Φ : SV → S → Prop) : Prop :=
  ∀ ad H σ v u Q, SR K Zc ad H σ s → VR K Zc ad s.mem H v x → VR K Zc ad s.mem H u y → Post K Zc ad H σ s Φ Q → r v u H Q
def UnS (K : PySem.W.Frag) (Zc : Addr → Prop) (r : V → Hp → VK → Prop) (x : SV) (s : S) (Φ : SV → S → Prop) : Prop :=
  ∀ ad H σ v Q, SR K Zc ad H σ s → VR K Zc ad s.mem H v x → Post K Zc ad H σ s Φ Q → r v H Q
def TtS (K : PySem.W.Frag) (Zc : Addr → Prop) (c : TT) (s : S) (Φ : Bool → S → Prop) : Prop :=
  ∀ ad H σ (Q : Bool → Hp → Prop), SR K Zc ad H σ s → (∀ b ad' H' s', Φ b s' → SR K Zc ad' H' σ s' → Frm Zc s.mem.length ad s.mem H ad' s'.mem H' → Q b H') → c σ H Q
def VRs (K : PySem.W.Frag) (Zc : Addr → Prop) (ad : List Addr) (m : Mem) (H : Hp) : List V → List SV → Prop
  | [], [] => True
  | v :: vs, x :: xs => VR K Zc ad m H v x ∧ VRs K Zc ad m H vs xs
  | _, _ => False
def ArS (K : PySem.W.Frag) (Zc : Addr → Prop) (t : TA) (s : S) (Φ : List SV → S → Prop) : Prop :=
  ∀ ad H σ (Q : List V → Hp → Prop), SR K Zc ad H σ s → (∀ vs ad' H' svs s', Φ svs s' → SR K Zc ad' H' σ s' → Frm Zc s.mem.length ad s.mem H ad' s'.mem H' → VRs K Zc ad' s'.mem H' vs svs → Q vs H') → t σ H Q
structure DE where
  nx : S → Prop
  rt : SV → Mem → Prop
  bk : S → Prop := fun _ => False
  ct : S → Prop := fun _ => False
def ExS (K : PySem.W.Frag) (Zc : Addr → Prop) (n : Nat) (t : TS) (s : S) (De : DE) : Prop :=
  ∀ ad H σ (Dd : Ends), SR K Zc ad H σ s → n ≤ s.mem.length →
    (∀ σ' ad' H' s', De.nx s' → SR K Zc ad' H' σ' s' → Frm Zc n ad s.mem H ad' s'.mem H' → Dd.nx σ' H') →
    (∀ v ad' H' rv m', De.rt rv m' → MR K Zc ad' H' m' → Frm Zc n ad s.mem H ad' m' H' → VR K Zc ad' m' H' v rv → Dd.rt v H') →
    (∀ σ' ad' H' s', De.bk s' → SR K Zc ad' H' σ' s' → Frm Zc n ad s.mem H ad' s'.mem H' → Dd.bk σ' H') →
    (∀ σ' ad' H' s', De.ct s' → SR K Zc ad' H' σ' s' → Frm Zc n ad s.mem H ad' s'.mem H' → Dd.ct σ' H') → t Dd σ H
/-- what a state tells of a value, while it stands so -/
def rd (m : Mem) : SV → Option D
  | .dat d => some d
  | .own i => match m[i]? with
    | some (some d) => some d
    | _ => none
  | .ro _ => none
  | .rng _ _ => none
  | .exn _ _ _ => none
  | .un => none
/-- a value that will not be changed any more: a cell is given up -/
def asD (Φ : D → S → Prop) (sv : SV) (s : S) : Prop :=
  match sv with
  | .dat d => Φ d s
  | .own i => match s.mem[i]? with
    | some (some d) => Φ d (s.fz i d)
    | _ => False
  | .ro _ => False
  | .rng _ _ => False
  | .exn _ _ _ => False
  | .un => False

section
variable {K : PySem.W.Frag} {Zc : Addr → Prop} {ad ad' ad2 : List Addr} {H H' H2 : Hp} {m m' m2 : Mem} {σ σ' : L2.St} {s s' s1 : S} {n : Nat} {Q : VK} {Φ : SV → S → Prop}
theorem Post.step (p : Post K Zc ad H σ s Φ Q) (a : Frm Zc s.mem.length ad s.mem H ad' s'.mem H') : Post K Zc ad' H' σ s' Φ Q :=
  fun v ad2 H2 sv s2 h1 h2 h3 h4 => p v ad2 H2 sv s2 h1 h2 (a.trans h3 a.le) h4
theorem Post.val (p : Post K Zc ad H σ s Φ Q) (I : SR K Zc ad H σ s) {v : V} {sv : SV} (h : Φ sv s) (r : VR K Zc ad s.mem H v sv) : Q v H := p v ad H sv s h I (.refl (Nat.le_refl _)) r
theorem Post.tup (p : Post K Zc ad H σ s Φ Q) (I : SR K Zc ad H σ s) {vs : List V} {ds : List D} (h : Φ (.dat (.tuple ds)) s) (r : DVs K (FZ Zc ad s.mem H) vs ds) : mkT H vs Q := by
  refine NoI.keep (fun _ wNoI => ?_) ?_
  simp only [↓ NoI.wrOf wNoI (by
  clear wNoI
  cases q : strsD ds with
  | false =>
    exact .inl fun a hp => p _ ad _ _ s h (I.newT hp) (.newT hp) (.tup (.inr ⟨q, I.mr.newT_at hp⟩) (dpAll_mono (Frm.newT (ad := ad) (m := s.mem) hp).same _ _ r))
  | true =>
    exact .inr fun a o ho hp => p _ ad _ _ s h (I.newT hp) (.newT hp) (.tup (.inl ⟨q, o, ho, I.mr.newT_at hp⟩) (dpAll_mono (Frm.newT (ad := ad) (m := s.mem) hp).same _ _ r))
  )]
  intro _ hNoI
  simpa using (fun (_ : NoI.Sg) => hNoI) [5]
theorem Post.cell (p : Post K Zc ad H σ s Φ Q) (I : SR K Zc ad H σ s) {u : HO} {d : D} {a : Addr} (h : Φ (.own s.mem.length) ⟨s.sl, s.mem ++ [some d]⟩) (hp : H a = none) (r : Cell K (FZ Zc ad s.mem H) a u d) : Q (.ref a) (upd H a u) :=
  p _ _ _ _ _ h (I.newO hp r) (.newO I.mr hp) (.newO I.mr)
theorem Post.lst (p : Post K Zc ad H σ s Φ Q) (I : SR K Zc ad H σ s) {vs : List V} {ds : List D} {a : Addr} (h : Φ (.own s.mem.length) ⟨s.sl, s.mem ++ [some (.list ds)]⟩) (hp : H a = none) (r : DVs K (FZ Zc ad s.mem H) vs ds) : Q (.ref a) (upd H a (.lst vs)) :=
  p.cell I h hp (.lst r)

/-! what is read -/
theorem rd_own {i : Nat} {d : D} (e : rd m (.own i) = some d) : m[i]? = some (some d) := by
  simp only [rd] at e
  split at e
  · rename_i x q; cases e; exact q
  · cases e
theorem rd_obj {v : V} {i : Nat} {d : D} (h : MR K Zc ad H m) (r : VR K Zc ad m H v (.own i)) (e : m[i]? = some (some d)) : ∃ a o, v = .ref a ∧ ad[i]? = some a ∧ H a = some o ∧ Cell K (FZ Zc ad m H) a o d := by
  obtain ⟨_, a, h2, rfl⟩ := r
  obtain ⟨b, o, q1, q2, q3⟩ := h.cell i d e
  rw [h2] at q1; cases q1
  exact ⟨a, o, rfl, h2, q2, q3⟩
theorem rd_D {v : V} {sv : SV} {d : D} (h : MR K Zc ad H m) (r : VR K Zc ad m H v sv) (e : rd m sv = some d) : DV K H v d := by
  refine NoI.keep (fun _ wNoI => ?_) ?_
  simp only [↓ NoI.wrOf wNoI (by
  clear wNoI
  cases sv with
  | dat x => cases e; exact dp_mono Fz_le _ _ r
  | own i =>
    obtain ⟨a, o, rfl, _, q2, q3⟩ := rd_obj h r (rd_own e)
    exact (q3.mono Fz_le).dv q2
  | ro _ => cases e
  | rng _ _ => cases e
  | exn _ _ _ => cases e
  | un => cases e
  )]
  intro _ hNoI
  simpa using (fun (_ : NoI.Sg) => hNoI) [5]
theorem rd_lst {v : V} {sv : SV} {ds : List D} (h : MR K Zc ad H m) (r : VR K Zc ad m H v sv) (e : rd m sv = some (.list ds)) : ∃ a vs, v = .ref a ∧ H a = some (.lst vs) ∧ DVs K (FZ Zc ad m H) vs ds := by
  refine NoI.keep (fun _ wNoI => ?_) ?_
  simp only [↓ NoI.wrOf wNoI (by
  clear wNoI
  cases sv with
  | dat x =>
    cases e
    cases r with
    | lst h1 h2 => exact ⟨_, _, rfl, (Fz_inv h1).2, h2⟩
  | own i =>
    obtain ⟨a, o, rfl, _, q2, q3⟩ := rd_obj h r (rd_own e)
    cases q3 with
    | lst q3 => exact ⟨_, _, rfl, q2, q3⟩
  | ro _ => cases e
  | rng _ _ => cases e
  | exn _ _ _ => cases e
  | un => cases e
  )]
  intro _ hNoI
  simpa using (fun (_ : NoI.Sg) => hNoI) [5]
theorem rd_tup {v : V} {sv : SV} {ds : List D} (h : MR K Zc ad H m) (r : VR K Zc ad m H v sv) (e : rd m sv = some (.tuple ds)) : ∃ a vs, v = .ref a ∧ SqT K H a vs ∧ DVs K (FZ Zc ad m H) vs ds := by
  refine NoI.keep (fun _ wNoI => ?_) ?_
  simp only [↓ NoI.wrOf wNoI (by
  clear wNoI
  cases sv with
  | dat x =>
    cases e
    cases r with
    | tup h1 h2 => exact ⟨_, _, rfl, (h1.same Fz_le).sq, h2⟩
  | own i =>
    obtain ⟨a, o, rfl, _, q2, q3⟩ := rd_obj h r (rd_own e)
    cases q3
  | ro _ => cases e
  | rng _ _ => cases e
  | exn _ _ _ => cases e
  | un => cases e
  )]
  intro _ hNoI
  simpa using (fun (_ : NoI.Sg) => hNoI) [5]
theorem rd_int {v : V} {sv : SV} {i : Int} (h : MR K Zc ad H m) (r : VR K Zc ad m H v sv) (e : rd m sv = some (.int i)) : v = .int i := by
  refine NoI.keep (fun _ wNoI => ?_) ?_
  simp only [↓ NoI.wrOf wNoI (by
  clear wNoI
  cases sv with
  | dat x => cases e; cases r; rfl
  | own i =>
    obtain ⟨a, o, rfl, _, q2, q3⟩ := rd_obj h r (rd_own e)
    cases q3
  | ro _ => cases e
  | rng _ _ => cases e
  | exn _ _ _ => cases e
  | un => cases e
  )]
  intro _ hNoI
  simpa using (fun (_ : NoI.Sg) => hNoI) [5]
theorem rd_str {v : V} {sv : SV} {i : Str} (h : MR K Zc ad H m) (r : VR K Zc ad m H v sv) (e : rd m sv = some (.str i)) : v = .str i := by
  refine NoI.keep (fun _ wNoI => ?_) ?_
  simp only [↓ NoI.wrOf wNoI (by
  clear wNoI
  cases sv with
  | dat x => cases e; cases r; rfl
  | own i =>
    obtain ⟨a, o, rfl, _, q2, q3⟩ := rd_obj h r (rd_own e)
    cases q3
  | ro _ => cases e
  | rng _ _ => cases e
  | exn _ _ _ => cases e
  | un => cases e
  )]
  intro _ hNoI
  simpa using (fun (_ : NoI.Sg) => hNoI) [5]
theorem rd_tupD {v : V} {sv : SV} {ds : List D} (h : MR K Zc ad H m) (r : VR K Zc ad m H v sv) (e : rd m sv = some (.tuple ds)) : sv = .dat (.tuple ds) := by
  refine NoI.keep (fun _ wNoI => ?_) ?_
  simp only [↓ NoI.wrOf wNoI (by
  clear wNoI
  cases sv with
  | dat x => cases e; rfl
  | own i =>
    obtain ⟨a, o, rfl, _, q2, q3⟩ := rd_obj h r (rd_own e)
    cases q3
  | ro _ => cases e
  | rng _ _ => cases e
  | exn _ _ _ => cases e
  | un => cases e
  )]
  intro _ hNoI
  simpa using (fun (_ : NoI.Sg) => hNoI) [5]
/-! ### expressions -/
theorem ev_var {i : Nat} {sv : SV} (h : s.sl[i]? = some sv) (hu : sv ≠ .un) (k : Φ sv s) : EvS K Zc (tVar i) s Φ := by
  intro ad H σ Q I p
  obtain ⟨o, e, r⟩ := I.slot i sv h
  rcases r with r | ⟨v, rfl, r⟩
  · exact absurd r hu
  · exact ⟨v, e, p.val I k r⟩
theorem ev_int {i : Int} (k : Φ (.dat (.int i)) s) : EvS K Zc (tC (.int i)) s Φ := fun _ _ _ _ I p => p.val I k (.int i)
theorem ev_str {i : Str} (k : Φ (.dat (.str i)) s) : EvS K Zc (tC (.str i)) s Φ := fun _ _ _ _ I p => p.val I k (.str i)
theorem ev_bl {i : Bool} (k : Φ (.dat (.bool i)) s) : EvS K Zc (tC (.bl i)) s Φ := fun _ _ _ _ I p => p.val I k (.bl i)
theorem ev_non (k : Φ (.dat .none) s) : EvS K Zc (tC .non) s Φ := fun _ _ _ _ I p => p.val I k .non
/-- a value as it will stay -/
theorem ev_asD {t : TE} {Ψ : D → S → Prop} (h : EvS K Zc t s (asD Ψ)) (k : ∀ d s', Ψ d s' → Φ (.dat d) s') : EvS K Zc t s Φ := by
  refine NoI.keep (fun _ wNoI => ?_) ?_
  simp only [↓ NoI.wrOf wNoI (by
  clear wNoI
  intro ad H σ Q I p
  refine h ad H σ Q I fun v ad' H' sv s' hΨ I' F r => ?_
  cases sv with
  | dat d => exact p v ad' H' _ s' (k _ _ hΨ) I' F r
  | own i =>
    simp only [asD] at hΨ
    split at hΨ
    · rename_i ds e
      obtain ⟨_, a, h2, rfl⟩ := r
      exact p _ ad' H' _ _ (k _ _ hΨ) (I'.fz e) (F.trans (Frm.drop (i := i)) F.le) (I'.mr.drop_at e h2)
    · exact hΨ.elim
  | ro _ => exact hΨ.elim
  | rng _ _ => exact hΨ.elim
  | exn _ _ _ => exact hΨ.elim
  | un => exact hΨ.elim
  )]
  intro _ hNoI
  simpa using (fun (_ : NoI.Sg) => hNoI) [5]
theorem ev_D {t : TE} (h : EvS K Zc t s (asD fun d => Φ (.dat d))) : EvS K Zc t s Φ := ev_asD h fun _ _ q => q
theorem EvS.imp {t : TE} {Ψ : SV → S → Prop} (h : EvS K Zc t s Ψ) (k : ∀ sv s', Ψ sv s' → Φ sv s') : EvS K Zc t s Φ := fun ad H σ Q I p => h ad H σ Q I fun v ad' H' sv s' a b c d => p v ad' H' sv s' (k _ _ a) b c d
theorem ev_op {r : R2} {ta tb : TE} (h : EvS K Zc ta s fun x s1 => EvS K Zc tb s1 fun y s2 => OpS K Zc r x y s2 Φ) : EvS K Zc (tOp r ta tb) s Φ := by
  refine NoI.keep (fun _ wNoI => ?_) ?_
  simp only [↓ NoI.wrOf wNoI (by
  clear wNoI
  intro ad H σ Q I p
  refine h ad H σ _ I fun x ad1 H1 sx s1 h1 I1 F1 r1 => h1 ad1 H1 σ _ I1 fun y ad2 H2 sy s2 h2 I2 F2 r2 => ?_
  exact h2 ad2 H2 σ x y Q I2 (r1.frm F2) r2 ((p.step F1).step F2)
  )]
  intro _ hNoI
  simpa using (fun (_ : NoI.Sg) => hNoI) [5]
theorem ev_un {r : V → Hp → VK → Prop} {ta : TE} (h : EvS K Zc ta s fun x s1 => UnS K Zc r x s1 Φ) : EvS K Zc (tUn r ta) s Φ := by
  intro ad H σ Q I p
  exact h ad H σ _ I fun x ad1 H1 sx s1 h1 I1 F1 r1 => h1 ad1 H1 σ x Q I1 r1 (p.step F1)
theorem ev_if {c : TT} {ta tb : TE} (h : TtS K Zc c s fun b s1 => (b = true → EvS K Zc ta s1 Φ) ∧ (b = false → EvS K Zc tb s1 Φ)) : EvS K Zc (tIf c ta tb) s Φ := by
  refine NoI.keep (fun _ wNoI => ?_) ?_
  simp only [↓ NoI.wrOf wNoI (by
  clear wNoI
  intro ad H σ Q I p
  refine h ad H σ _ I fun b ad1 H1 s1 h1 I1 F1 => ?_
  cases b with
  | true => exact h1.1 rfl ad1 H1 σ Q I1 (p.step F1)
  | false => exact h1.2 rfl ad1 H1 σ Q I1 (p.step F1)
  )]
  intro _ hNoI
  simpa using (fun (_ : NoI.Sg) => hNoI) [5]
theorem VRs.frm : ∀ {vs : List V} {svs : List SV}, VRs K Zc ad m H vs svs → Frm Zc m.length ad m H ad' m' H' → VRs K Zc ad' m' H' vs svs
  | [], [], _, _ => trivial
  | _ :: _, _ :: _, h, a => ⟨h.1.frm a, VRs.frm h.2 a⟩
  | [], _ :: _, h, _ => h
  | _ :: _, [], h, _ => h
theorem VRs.len : ∀ {vs : List V} {svs : List SV}, VRs K Zc ad m H vs svs → vs.length = svs.length
  | [], [], _ => rfl
  | _ :: _, _ :: _, h => by simp [VRs.len h.2]
  | [], _ :: _, h => h.elim
  | _ :: _, [], h => h.elim
theorem VRs.get : ∀ {vs : List V} {svs : List SV} {i : Nat} {sv : SV}, VRs K Zc ad m H vs svs → svs[i]? = some sv → ∃ v, vs[i]? = some v ∧ VR K Zc ad m H v sv
  | [], [], _, _, _, e => by simp at e
  | v :: _, _ :: _, 0, _, h, e => by simp at e; subst e; exact ⟨v, rfl, h.1⟩
  | _ :: _, _ :: _, i + 1, sv, h, e => by
    obtain ⟨v, e1, e2⟩ := VRs.get (i := i) h.2 (by simpa using e)
    exact ⟨v, by simpa using e1, e2⟩
  | [], _ :: _, _, _, h, _ => h.elim
  | _ :: _, [], _, _, h, _ => h.elim
theorem ar_nil {Ψ : List SV → S → Prop} (k : Ψ [] s) : ArS K Zc tNil s Ψ := fun ad H σ Q I p => p [] ad H [] s k I (.refl (Nat.le_refl _)) trivial
theorem ar_cons {ta : TE} {tr : TA} {Ψ : List SV → S → Prop} (h : EvS K Zc ta s fun x s1 => ArS K Zc tr s1 fun xs s2 => Ψ (x :: xs) s2) : ArS K Zc (tCons ta tr) s Ψ := by
  refine NoI.keep (fun _ wNoI => ?_) ?_
  simp only [↓ NoI.wrOf wNoI (by
  clear wNoI
  intro ad H σ Q I p
  refine h ad H σ _ I fun x ad1 H1 sx s1 h1 I1 F1 r1 => h1 ad1 H1 σ _ I1 fun xs ad2 H2 svs s2 h2 I2 F2 r2 => ?_
  exact p (x :: xs) ad2 H2 (sx :: svs) s2 h2 I2 (F1.trans F2 F1.le) ⟨r1.frm F2, r2⟩
  )]
  intro _ hNoI
  simpa using (fun (_ : NoI.Sg) => hNoI) [5]
/-- all of them as they will stay -/
def allD : List SV → Option (List D)
  | [] => some []
  | .dat d :: r => (allD r).map (d :: ·)
  | _ :: _ => none
theorem allD_dvs : ∀ {vs : List V} {svs : List SV} {ds : List D}, VRs K Zc ad m H vs svs → allD svs = some ds → DVs K (FZ Zc ad m H) vs ds
  | [], [], _, _, e => by cases e; exact .nil
  | v :: vs, .dat d :: svs, ds, h, e => by
    simp only [allD, Option.map_eq_some_iff] at e
    obtain ⟨es, e1, rfl⟩ := e
    exact .cons h.1 (allD_dvs h.2 e1)
  | _ :: _, .own _ :: _, _, _, e => by cases e
  | _ :: _, .un :: _, _, _, e => by cases e
  | _ :: _, .ro _ :: _, _, _, e => by cases e
  | _ :: _, .rng _ _ :: _, _, _, e => by cases e
  | _ :: _, .exn _ _ _ :: _, _, _, e => by cases e
  | [], _ :: _, _, h, _ => h.elim
  | _ :: _, [], _, h, _ => h.elim
/-- a tuple of which all is known, made -/
def tTupF (t : TA) : TE := fun σ H Q => t σ H fun xs H1 => xs.length ≤ sizeLine ∧ mkT H1 xs Q
theorem ev_tup {ta : TA} (h : ArS K Zc ta s fun svs s1 => ∃ ds, allD svs = some ds ∧ ds.length ≤ sizeLine ∧ Φ (.dat (.tuple ds)) s1) : EvS K Zc (tTupF ta) s Φ := by
  refine NoI.keep (fun _ wNoI => ?_) ?_
  simp only [↓ NoI.wrOf wNoI (by
  clear wNoI
  intro ad H σ Q I p
  refine h ad H σ _ I fun vs ad1 H1 svs s1 h1 I1 F1 r1 => ?_
  obtain ⟨ds, e, hz, k⟩ := h1
  have hd := allD_dvs r1 e
  exact ⟨by rw [dpAll_len hd]; exact hz, (p.step F1).tup I1 k hd⟩
  )]
  intro _ hNoI
  simpa using (fun (_ : NoI.Sg) => hNoI) [5]
theorem ev_lst {ta : TA} (h : ArS K Zc ta s fun svs s1 => ∃ ds, allD svs = some ds ∧ ds.length ≤ sizeLine ∧ Φ (.own s1.mem.length) ⟨s1.sl, s1.mem ++ [some (.list ds)]⟩) : EvS K Zc (tLst ta) s Φ := by
  refine NoI.keep (fun _ wNoI => ?_) ?_
  simp only [↓ NoI.wrOf wNoI (by
  clear wNoI
  intro ad H σ Q I p
  refine h ad H σ _ I fun vs ad1 H1 svs s1 h1 I1 F1 r1 => ?_
  obtain ⟨ds, e, hz, k⟩ := h1
  have hd := allD_dvs r1 e
  exact ⟨by rw [dpAll_len hd]; exact hz, fun q hq => (p.step F1).lst I1 k hq hd⟩
  )]
  intro _ hNoI
  simpa using (fun (_ : NoI.Sg) => hNoI) [5]

/-! ### tests -/
theorem tt_test {te : TE} {Ψ : Bool → S → Prop} (h : EvS K Zc te s fun sv s' => ∃ b, sv = .dat (.bool b) ∧ Ψ b s') : TtS K Zc (tTest te) s Ψ := by
  intro ad H σ Q I p
  refine h ad H σ _ I fun v ad1 H1 sv s1 h1 I1 F1 r1 => ?_
  obtain ⟨b, rfl, k⟩ := h1
  cases r1
  exact ⟨b, rfl, p b ad1 H1 s1 k I1 F1⟩
theorem tt_and {t u : TT} {Ψ : Bool → S → Prop} (h : TtS K Zc t s fun b s1 => (b = true → TtS K Zc u s1 Ψ) ∧ (b = false → Ψ false s1)) : TtS K Zc (tAnd t u) s Ψ := by
  refine NoI.keep (fun _ wNoI => ?_) ?_
  simp only [↓ NoI.wrOf wNoI (by
  clear wNoI
  intro ad H σ Q I p
  refine h ad H σ _ I fun b ad1 H1 s1 h1 I1 F1 => ?_
  cases b with
  | true => exact h1.1 rfl ad1 H1 σ Q I1 fun b ad2 H2 s2 q I2 F2 => p b ad2 H2 s2 q I2 (F1.trans F2 F1.le)
  | false => exact p false ad1 H1 s1 (h1.2 rfl) I1 F1
  )]
  intro _ hNoI
  simpa using (fun (_ : NoI.Sg) => hNoI) [5]
theorem tt_or {t u : TT} {Ψ : Bool → S → Prop} (h : TtS K Zc t s fun b s1 => (b = true → Ψ true s1) ∧ (b = false → TtS K Zc u s1 Ψ)) : TtS K Zc (tOr t u) s Ψ := by
  refine NoI.keep (fun _ wNoI => ?_) ?_
  simp only [↓ NoI.wrOf wNoI (by
  clear wNoI
  intro ad H σ Q I p
  refine h ad H σ _ I fun b ad1 H1 s1 h1 I1 F1 => ?_
  cases b with
  | true => exact p true ad1 H1 s1 (h1.1 rfl) I1 F1
  | false => exact h1.2 rfl ad1 H1 σ Q I1 fun b ad2 H2 s2 q I2 F2 => p b ad2 H2 s2 q I2 (F1.trans F2 F1.le)
  )]
  intro _ hNoI
  simpa using (fun (_ : NoI.Sg) => hNoI) [5]
theorem tt_not {t : TT} {Ψ : Bool → S → Prop} (h : TtS K Zc t s fun b s1 => Ψ (!b) s1) : TtS K Zc (tNot t) s Ψ := by
  intro ad H σ Q I p
  exact h ad H σ _ I fun b ad1 H1 s1 h1 I1 F1 => p _ ad1 H1 s1 h1 I1 F1

/-! ### statements -/
variable {De : DE}
theorem ex_seq {t u : TS} (h : ExS K Zc n t s { De with nx := fun s1 => ExS K Zc n u s1 De }) : ExS K Zc n (tSeq t u) s De := by
  refine NoI.keep (fun _ wNoI => ?_) ?_
  simp only [↓ NoI.wrOf wNoI (by
  clear wNoI
  intro ad H σ Dd I hn k1 k2 k3 k4
  refine h ad H σ { Dd with nx := u Dd } I hn (fun σ1 ad1 H1 s1 h1 I1 F1 => ?_) k2 k3 k4
  exact h1 ad1 H1 σ1 Dd I1 F1.le (fun σ2 ad2 H2 s2 a b c => k1 σ2 ad2 H2 s2 a b (F1.trans c (Nat.le_refl n))) (fun v ad2 H2 rv m2 a b c d => k2 v ad2 H2 rv m2 a b (F1.trans c (Nat.le_refl n)) d)
    (fun σ2 ad2 H2 s2 a b c => k3 σ2 ad2 H2 s2 a b (F1.trans c (Nat.le_refl n))) fun σ2 ad2 H2 s2 a b c => k4 σ2 ad2 H2 s2 a b (F1.trans c (Nat.le_refl n))
  )]
  intro _ hNoI
  simpa using (fun (_ : NoI.Sg) => hNoI) [5]
theorem ex_ret {te : TE} (h : EvS K Zc te s fun sv s' => De.rt sv s'.mem) : ExS K Zc n (tRet te) s De := by
  intro ad H σ Dd I hn k1 k2 k3 k4
  exact h ad H σ _ I fun v ad1 H1 sv s1 h1 I1 F1 r1 => k2 v ad1 H1 sv s1.mem h1 I1.mr (F1.less hn) r1
theorem ex_next (h : De.nx s) : ExS K Zc n tNext s De := by
  intro ad H σ Dd I hn k1 k2 k3 k4
  exact k1 σ ad H s h I (.refl hn)
theorem ex_break (h : De.bk s) : ExS K Zc n tBreak s De := by
  intro ad H σ Dd I hn k1 k2 k3 k4
  exact k3 σ ad H s h I (.refl hn)
theorem ex_cont (h : De.ct s) : ExS K Zc n tCont s De := by
  intro ad H σ Dd I hn k1 k2 k3 k4
  exact k4 σ ad H s h I (.refl hn)
theorem ex_drop {te : TE} (h : EvS K Zc te s fun _ s' => De.nx s') : ExS K Zc n (tDrop te) s De := by
  intro ad H σ Dd I hn k1 k2 k3 k4
  exact h ad H σ _ I fun v ad1 H1 sv s1 h1 I1 F1 r1 => k1 σ ad1 H1 s1 h1 I1 (F1.less hn)
theorem ex_if {c : TT} {t u : TS} (h : TtS K Zc c s fun b s1 => (b = true → ExS K Zc n t s1 De) ∧ (b = false → ExS K Zc n u s1 De)) : ExS K Zc n (tIfS c t u) s De := by
  refine NoI.keep (fun _ wNoI => ?_) ?_
  simp only [↓ NoI.wrOf wNoI (by
  clear wNoI
  intro ad H σ Dd I hn k1 k2 k3 k4
  refine h ad H σ _ I fun b ad1 H1 s1 h1 I1 F1 => ?_
  have F1 := F1.less hn
  have go : ∀ {w : TS}, ExS K Zc n w s1 De → w Dd σ H1 := fun {w} q => q ad1 H1 σ Dd I1 F1.le (fun σ2 ad2 H2 s2 a b c => k1 σ2 ad2 H2 s2 a b (F1.trans c (Nat.le_refl n))) (fun v ad2 H2 rv m2 a b c d => k2 v ad2 H2 rv m2 a b (F1.trans c (Nat.le_refl n)) d)
    (fun σ2 ad2 H2 s2 a b c => k3 σ2 ad2 H2 s2 a b (F1.trans c (Nat.le_refl n))) fun σ2 ad2 H2 s2 a b c => k4 σ2 ad2 H2 s2 a b (F1.trans c (Nat.le_refl n))
  cases b with
  | true => exact go (h1.1 rfl)
  | false => exact go (h1.2 rfl)
  )]
  intro _ hNoI
  simpa using (fun (_ : NoI.Sg) => hNoI) [5]
/-- what is known less of, ahead of a statement -/
theorem ex_wk {t : TS} (w : Wk s s1) (hn : n ≤ s1.mem.length) (h : ExS K Zc n t s1 De) : ExS K Zc n t s De := by
  refine NoI.keep (fun _ wNoI => ?_) ?_
  simp only [↓ NoI.wrOf wNoI (by
  clear wNoI
  intro ad H σ Dd I _ k1 k2 k3 k4
  have F1 : Frm Zc n ad s.mem H ad s1.mem H := w.frm hn
  exact h ad H σ Dd (I.wk w) hn (fun σ2 ad2 H2 s2 a b c => k1 σ2 ad2 H2 s2 a b (F1.trans c (Nat.le_refl n))) (fun v ad2 H2 rv m2 a b c d => k2 v ad2 H2 rv m2 a b (F1.trans c (Nat.le_refl n)) d)
    (fun σ2 ad2 H2 s2 a b c => k3 σ2 ad2 H2 s2 a b (F1.trans c (Nat.le_refl n))) fun σ2 ad2 H2 s2 a b c => k4 σ2 ad2 H2 s2 a b (F1.trans c (Nat.le_refl n))
  )]
  intro _ hNoI
  simpa using (fun (_ : NoI.Sg) => hNoI) [5]
/-- targets -/
def GS (K : PySem.W.Frag) (Zc : Addr → Prop) (g : TG) (sv : SV) (s : S) (Ψ : S → Prop) : Prop :=
  ∀ ad H σ v (Q : L2.St → Hp → Prop), SR K Zc ad H σ s → VR K Zc ad s.mem H v sv → (∀ σ' sl', Ψ ⟨sl', s.mem⟩ → SR K Zc ad H σ' ⟨sl', s.mem⟩ → Q σ' H) → g v σ H Q
def GSs (K : PySem.W.Frag) (Zc : Addr → Prop) (g : TGs) (ds : List D) (s : S) (Ψ : S → Prop) : Prop :=
  ∀ ad H σ vs (Q : L2.St → Hp → Prop), SR K Zc ad H σ s → DVs K (FZ Zc ad s.mem H) vs ds → (∀ σ' sl', Ψ ⟨sl', s.mem⟩ → SR K Zc ad H σ' ⟨sl', s.mem⟩ → Q σ' H) → g vs σ H Q
theorem g_name {i : Nat} {sv : SV} {Ψ : S → Prop} (h : Ψ ⟨s.sl.set i sv, s.mem⟩) : GS K Zc (gName i) sv s Ψ := by
  intro ad H σ v Q I r k
  exact k _ _ h (I.set r)
theorem g_nil {Ψ : S → Prop} (h : Ψ s) : GSs K Zc gNil [] s Ψ := by
  intro ad H σ vs Q I r k
  cases r
  exact ⟨rfl, k _ s.sl h I⟩
theorem g_cons {g : TG} {u : TGs} {d : D} {ds : List D} {Ψ : S → Prop} (h : GS K Zc g (.dat d) s fun s1 => GSs K Zc u ds s1 Ψ) : GSs K Zc (gCons g u) (d :: ds) s Ψ := by
  intro ad H σ vs Q I r k
  cases r with
  | cons r1 r2 =>
    refine ⟨_, _, rfl, h ad H σ _ _ I r1 fun σ1 sl1 h1 I1 => ?_⟩
    exact h1 ad H σ1 _ Q I1 r2 k
theorem g_tup {K' : PySem.W.Frag} {j : Nat} {u : TGs} {d : D} {ds : List D} {Ψ : S → Prop} (hK : K' = K) (hd : d = .tuple ds) (hl : ds.length = j) (h : GSs K Zc u ds s Ψ) : GS K Zc (gTup K' j u) (.dat d) s Ψ := by
  refine NoI.keep (fun _ wNoI => ?_) ?_
  simp only [↓ NoI.wrOf wNoI (by
  clear wNoI
  intro ad H σ v Q I r k
  subst hK hd
  cases r with
  | tup h1 h2 => exact ⟨_, _, rfl, (h1.same Fz_le).sq, by rw [dpAll_len h2]; exact hl, h ad H σ _ Q I h2 k⟩
  )]
  intro _ hNoI
  simpa using (fun (_ : NoI.Sg) => hNoI) [5]
theorem ex_asg {te : TE} {g : TG} (h : EvS K Zc te s fun sv s1 => GS K Zc g sv s1 De.nx) : ExS K Zc n (tAsg te g) s De := by
  refine NoI.keep (fun _ wNoI => ?_) ?_
  simp only [↓ NoI.wrOf wNoI (by
  clear wNoI
  intro ad H σ Dd I hn k1 k2 k3 k4
  refine h ad H σ _ I fun v ad1 H1 sv s1 h1 I1 F1 r1 => ?_
  exact h1 ad1 H1 σ v _ I1 r1 fun σ2 sl2 h2 I2 => k1 σ2 ad1 H1 _ h2 I2 (F1.less hn)
  )]
  intro _ hNoI
  simpa using (fun (_ : NoI.Sg) => hNoI) [5]
end
end SH

/-! == of two values that tell the same data, dicts of any keys included; dicts whose keys are tuples, as the library tells them -/
namespace SH
open PySem PySem.Spec PyProof.Rows L2
section
variable [WW]
theorem dxo_at {P : Program} {w : World} {H : Hp} {h : Heap} {a : Addr} {xs : List XE} (ok : HOk P w H h) (e : Rd H a (DXo a xs)) : DXp a xs h := (e.ok ok).1
variable {X : Cx} {pins : List (Addr × Obj)} {σ : L2.St} {H : Hp} {s : Shared}
mutual
theorem nk_is (I : L2.Inv X pins σ H s) : ∀ (k : NestedKey) (v : V) (u : Value), DV X.K H v k.data → RelV v u → NestedIs s.heap k u
  | .none, _, _, h, r => by
    cases h
    cases r
    exact .none
  | .num i, _, _, h, r => by
    cases h
    obtain ⟨t, rfl⟩ := r
    exact .int i t
  | .text x, _, _, h, r => by
    cases h
    obtain ⟨t, rfl⟩ := r
    exact .text x t
  | .tup ks, _, _, h, r => by
    cases h with
    | tup h1 h2 =>
      cases r
      obtain ⟨its, rv, ⟨o, e1, e2, n, e3⟩, _⟩ := I.tuple (h1.sq (K := X.K))
      exact .tup e1 e2 e3 (by simpa using nks_is I ks _ _ h2 rv)
theorem nks_is (I : L2.Inv X pins σ H s) : ∀ (ks : List NestedKey) (vs : List V) (us : List Value), DVs X.K H vs (NestedKey.datas ks) → Vals vs us → NestedAll s.heap ks us
  | [], _, _, h, r => by
    cases h
    cases r
    exact .nil
  | k :: ks, _, _, h, r => by
    cases h with
    | cons h1 h2 =>
      cases r with
      | cons r1 r2 => exact .cons (nk_is I k _ _ h1 r1) (nks_is I ks _ _ h2 r2)
end
theorem xes_is (I : L2.Inv X pins σ H s) : ∀ {xs : List XE} {ys : List (NestedKey × Addr × Value)} {es : List (D × D)}, XEs xs ys → DKs X.K H xs es → (∀ x ∈ xs, x.1.depth ≤ 8) → ∀ y ∈ ys, (nestedKind X.prog X.w).is s.heap y.1 y.2.1
  | _, _, _, .nil, _, _, y, hy => by simp at hy
  | _, _, _, .cons r t, .cons h1 h2 h3, hd, y, hy => by
    rcases List.mem_cons.mp hy with rfl | hy
    · obtain ⟨e1, e2, _⟩ := r
      rw [← e1, ← e2]
      exact ⟨nk_is I _ _ _ h1 rfl, hd _ List.mem_cons_self⟩
    · exact xes_is I t h3 (fun x hx => hd x (List.mem_cons_of_mem _ hx)) y hy
end
/-- such a dict, as the library tells it -/
theorem dx_of {X : Cx} {pins : List (Addr × Obj)} {σ : L2.St} {H : Hp} {s : Shared} {a : Addr} {xs : List XE} {es : List (D × D)} (I : L2.Inv X pins σ H s) (e : Rd H a (@DXo ⟨X.w⟩ a xs)) (h : @DKs ⟨X.w⟩ X.K H xs es) :
    ∃ ys, XEs xs ys ∧ s.heap.DictOfH (nestedKind X.prog X.w) a ys ∧ (xs.length ≤ sizeLine ∧ ∀ x ∈ xs, x.1.depth ≤ 8) ∧ (a == sysModules) = false := by
  refine NoI.keep (fun _ wNoI => ?_) ?_
  simp only [↓ NoI.wrOf wNoI (by
  clear wNoI
  obtain ⟨hd, hs, ys, r, o, es', ep, g1, g2, g3, g4, g5⟩ := @dxo_at ⟨X.w⟩ _ _ _ _ _ _ I.hok e
  exact ⟨ys, r, ⟨o, es', ep, g1, g2, g3, g4, @xes_is ⟨X.w⟩ _ _ _ _ _ I _ _ _ r h hd.2, g5⟩, hd, hs⟩
  )]
  intro _ hNoI
  simpa using (fun (_ : NoI.Sg) => hNoI) [5]
/-- an empty dict, of whatever keys -/
theorem dk_nil {X : Cx} {pins : List (Addr × Obj)} {σ : L2.St} {H : Hp} {s : Shared} {a : Addr} (I : L2.Inv X pins σ H s) (e : Rd H a (.dK [])) : s.heap.DictOfH (nestedKind X.prog X.w) a [] ∧ (a == sysModules) = false := by
  refine NoI.keep (fun _ wNoI => ?_) ?_
  simp only [↓ NoI.wrOf wNoI (by
  clear wNoI
  obtain ⟨z, hd, vs0, r0, dd⟩ := dk_rd I.hok e
  cases r0
  obtain ⟨o, es, ep, h1, h2, h3, _, h5, _⟩ := dd
  refine ⟨⟨o, es, ep, h1, h2, h3, ?_, by simp, by simp⟩, hd⟩
  have := h5.length
  simpa using this
  )]
  intro _ hNoI
  simpa using (fun (_ : NoI.Sg) => hNoI) [5]

/-! ### == of two dicts whose keys are objects, where all is found -/
section
variable {prog : Program} {w : World} {κ : Type} [DecidableEq κ] {knd : HeapKind prog w κ} {A : Around} {E : Value → Shared → Prop} {s : Shared}
/-- each entry's value is found equal in the other dict -/
def AllIn (prog : Program) (w : World) (A : Around) (s : Shared) (xs ys : List (κ × Addr × Value)) : Prop :=
  ∀ (i : Nat) (k : κ) (b : Addr) (v : Value), xs[i]? = some (k, b, v) → ∃ (j : Nat) (c : Addr) (u : Value), ys[j]? = some (k, c, u) ∧ SeqAt.EqP prog w A s v u true
theorem samePairsX {nm : String} {a b : Addr} {xs ys : List (κ × Addr × Value)} {Q : Bool → Shared → Prop} (hu : knd.room A) (ha : (a == sysModules) = false) (hb : (b == sysModules) = false)
    (da : s.heap.DictOfH knd a xs) (db : s.heap.DictOfH knd b ys) (hl : xs.length = ys.length) (hits : AllIn prog w A s xs ys) (h : Q true s) :
    wpAny (model prog w) A (Builtin.Dict.samePairs nm a b) Q E s := by
  refine NoI.keep (fun _ wNoI => ?_) ?_
  simp only [↓ NoI.wrOf wNoI (by
  clear wNoI
  obtain ⟨oa, es, ep, ga, _, ca, la, ka, na⟩ := da
  obtain ⟨ob, es', ep', gb, _, cb, lb, kb, nb⟩ := db
  have za : es.size = xs.length := size_of_entries la
  have zb : es'.size = ys.length := size_of_entries lb
  have zz : es.size = es'.size := by omega
  have na' : ¬ (a == sysModules) = true := by rw [ha]; decide
  have nb' : ¬ (b == sysModules) = true := by rw [hb]; decide
  unfold Builtin.Dict.samePairs Builtin.Dict.showsAll
  rw [if_neg na', if_neg nb']
  refine wpAny_bind (wpAny_pure (wpAny_bind (wpAny_pure (wpAny_bind (wpAny_dictEntries ga ca ?_)))))
  dsimp only
  refine wpAny_bind (wpAny_dictEntries gb cb ?_)
  have hne : ¬ (es.size != es'.size) = true := by rw [zz]; simp
  rw [if_neg hne]
  refine wpAny_bind (wpAny_dictEpoch ga ca (wpAny_bind ?_))
  rw [Std.Legacy.Range.forIn_eq_forIn_range']
  simp only [Std.Legacy.Range.size, Nat.sub_zero, Nat.add_sub_cancel, Nat.div_one]
  refine wpAny_forIn_list _ (fun rest q t => t = s ∧ q = (none, ()) ∧ ∃ i, i ≤ es.size ∧ rest = List.range' i (es.size - i)) _ ?_ ?_ _ _ ⟨rfl, rfl, 0, Nat.zero_le _, by simp⟩
  · rintro x rest q t ⟨rfl, rfl, i, hi, hr⟩
    have hlt : i < es.size := by
      apply Decidable.byContradiction
      intro z
      rw [show es.size - i = 0 by omega] at hr
      cases hr
    obtain ⟨rfl, hrest⟩ : x = i ∧ rest = List.range' (i + 1) (es.size - (i + 1)) := by
      rw [show es.size - i = (es.size - (i + 1)) + 1 by omega, List.range'_succ] at hr
      cases hr
      exact ⟨rfl, rfl⟩
    obtain ⟨⟨k, c, v⟩, hx⟩ : ∃ p, xs[x]? = some p := ⟨xs[x]'(by omega), List.getElem?_eq_getElem _⟩
    have hex : es[x]? = some ⟨knd.hash k, .ref c, v⟩ := by rw [entry_at la x, hx]; rfl
    obtain ⟨j, d, u, hy, he⟩ := hits x k c v hx
    refine wpAny_bind (wpAny_dictEntries ga ca ?_)
    rw [hex]
    refine wpAny_bind (wpAny_holding (wpAny_bind (wpAny_dictFind_heap hu (ka _ (List.mem_of_getElem? hx)) gb cb lb kb nb (fun hno => absurd hy (hno j _)) fun j2 p2 hj2 => ?_)))
    obtain rfl : j2 = j := idxH_unique nb hj2 hy
    rw [hy] at hj2
    cases hj2
    have hey : es'[j2]? = some ⟨knd.hash k, .ref d, u⟩ := by rw [entry_at lb j2, hy]; rfl
    refine wpAny_bind (wpAny_dictEntries gb cb ?_)
    rw [hey]
    refine wpAny_holding (he _ _ ?_)
    show wpAny _ _ (if (!true) = true then _ else _) _ _ _
    rw [if_neg (by decide)]
    refine wpAny_bind (wpAny_dictEpoch ga ca ?_)
    have hep : ¬ (ep != ep) = true := by simp
    rw [if_neg hep]
    exact wpAny_pure ⟨rfl, rfl, x + 1, hlt, hrest⟩
  · rintro q t ⟨rfl, rfl, i, hi, hr⟩
    exact wpAny_pure h
  )]
  intro _ hNoI
  simpa using (fun (_ : NoI.Sg) => hNoI) [5]
theorem rcX_dicts {a b : Addr} {xs ys : List (κ × Addr × Value)} (hu0 : knd.room A.in1) (ha : (a == sysModules) = false) (hb : (b == sysModules) = false) (da : s.heap.DictOfH knd a xs) (db : s.heap.DictOfH knd b ys) (hu : A.units < cLine)
    (hl : xs.length = ys.length) (hits : AllIn prog w A.in1 s xs ys) (E Q : Value → Shared → Prop) (h : Q (.bool true) s) : wpAny (model prog w) A (richCompare .Eq (.ref a) (.ref b)) Q E s := by
  refine NoI.keep (fun _ wNoI => ?_) ?_
  simp only [↓ NoI.wrOf wNoI (by
  clear wNoI
  refine wpAny_richCompare_same_room (op := .Eq) da.typeIs db.typeIs PySem.F.slot_dict_eq (wpAny_call_entry PySem.F.slot_dict_eq da.typeIs PySem.F.entry_dict_eq ?_ (PySem.F.args_dict_eq_2 _ _)) hu
  refine wpAny_bind ?_
  unfold Builtin.Dict.dictSlotArgs
  refine wpAny_bind (wpAny_notOrdered_dict da.typeIs (wpAny_pure (wpAny_bind (wpAny_isInstance (T := "dict") db.typeIs PySem.F.sub_dict_dict ?_))))
  simp only [Bool.not_true, Bool.false_eq_true, if_false]
  refine wpAny_bind (wpAny_pure (wpAny_bind (wpAny_pure (wpAny_bind (samePairsX hu0 ha hb da db hl hits (wpAny_pure ⟨_, rfl, (fun z => nomatch z : Value.bool _ ≠ Value.notImplemented), by simpa using h⟩))))))
  )]
  intro _ hNoI
  simpa using (fun (_ : NoI.Sg) => hNoI) [5]
end

/-! ### any data -/
section
variable {X : Cx} {pins : List (Addr × Obj)} {σ : L2.St} {H : Hp} {s : Shared}
theorem eqP_self {P : Program} {w : World} {A : Around} {u : Value} : SeqAt.EqP P w A s u u true := (SeqAt.EqAt.same _).eqP
theorem all_true {n : Nat} : (List.range n).all (fun _ => true) = true := by simp
theorem kd_fst {kvs us : List (Key × V)} {es : List (D × D)} (h1 : es.map (·.1) = kvs.map (fun p => kD p.1)) (h2 : es.map (·.1) = us.map (fun p => kD p.1)) : kvs.map (·.1) = us.map (·.1) := by
  refine NoI.keep (fun _ wNoI => ?_) ?_
  simp only [↓ NoI.wrOf wNoI (by
  clear wNoI
  rw [h1] at h2
  clear h1
  induction kvs generalizing us with
  | nil => cases us with
    | nil => rfl
    | cons u us => cases h2
  | cons p ps ih =>
    cases us with
    | nil => cases h2
    | cons u us =>
      simp only [List.map_cons, List.cons.injEq] at h2 ⊢
      refine ⟨?_, ih h2.2⟩
      have := h2.1
      revert this
      cases p.1 <;> cases u.1 <;> simp [kD]
  )]
  intro _ hNoI
  simpa using (fun (_ : NoI.Sg) => hNoI) [5]
theorem valueAt_at {κ : Type} [DecidableEq κ] : ∀ {vs : List (κ × Value)} {i : Nat} {k : κ} {v : Value}, (vs.map (·.1)).Nodup → vs[i]? = some (k, v) → valueAt vs k = some v
  | [], _, _, _, _, h => by simp at h
  | (k0, v0) :: r, 0, _, _, _, h => by simp at h; obtain ⟨rfl, rfl⟩ := h; simp [valueAt]
  | (k0, v0) :: r, i + 1, k, v, hn, h => by
    simp only [List.map_cons, List.nodup_cons] at hn
    simp only [List.getElem?_cons_succ] at h
    have : k0 ≠ k := fun e => hn.1 (List.mem_map.mpr ⟨_, List.mem_of_getElem? h, e.symm⟩)
    have ih := valueAt_at hn.2 h
    simpa [valueAt, this] using ih
theorem hits_all {P : Program} {w : World} {A : Around} {kb : List (Key × Value)} : ∀ {r : List (Key × Value)}, (∀ (i : Nat) (k : Key) (v : Value), r[i]? = some (k, v) → ∃ u, valueAt kb k = some u ∧ SeqAt.EqP P w A s v u true) → PySem.W.KeqHitsP P w A s kb r true
  | [], _ => .nil
  | (k, v) :: r, h => by
    obtain ⟨u, h1, h2⟩ := h 0 k v rfl
    have := PySem.W.KeqHitsP.hit h1 h2 (hits_all (r := r) fun i k v e => h (i + 1) k v (by simpa using e))
    simpa using this
end
/-- a comparison of items that tell the same -/
def EqDs (X : Cx) (s : Shared) (us ws : List Value) (n : Nat) : Prop := us.length = ws.length ∧ ∀ A : Around, A.units + n + 16 < cLine → ∀ (j : Nat) (u w : Value), us[j]? = some u → ws[j]? = some w → SeqAt.EqP X.prog X.w A s u w true
theorem EqDs.cons {X : Cx} {s : Shared} {u w : Value} {us ws : List Value} {n : Nat} (h : ∀ A : Around, A.units + n + 16 < cLine → SeqAt.EqP X.prog X.w A s u w true) (t : EqDs X s us ws n) : EqDs X s (u :: us) (w :: ws) n :=
  ⟨by simp [t.1], fun A hu j a b ha hb => by
    cases j with
    | zero => simp at ha hb; subst ha hb; exact h A hu
    | succ j => exact t.2 A hu j a b (by simpa using ha) (by simpa using hb)⟩
theorem EqDs.less {X : Cx} {s : Shared} {us ws : List Value} {n m : Nat} (h : EqDs X s us ws n) (e : n ≤ m) : EqDs X s us ws m := ⟨h.1, fun A hu => h.2 A (by omega)⟩
section
variable {X : Cx} {pins : List (Addr × Obj)} {σ : L2.St} {H : Hp} {s : Shared}
theorem xes_val : ∀ {xs : List XE} {ys : List (NestedKey × Addr × Value)}, XEs xs ys → Vals (xs.map (·.2.2)) (ys.map (·.2.2))
  | _, _, .nil => .nil
  | _, _, .cons r t => .cons r.2.2 (xes_val t)
theorem xes_key : ∀ {xs : List XE} {ys : List (NestedKey × Addr × Value)}, XEs xs ys → xs.map (·.1) = ys.map (·.1)
  | _, _, .nil => rfl
  | _, _, .cons r t => by rw [List.map_cons, List.map_cons, xes_key t, r.1]
theorem kv_val : ∀ {xs : List (Key × V)} {ys : List (Key × Value)}, KV xs ys → Vals (xs.map (·.2)) (ys.map (·.2))
  | _, _, .nil => .nil
  | _, _, .cons r t => .cons r.2 (kv_val t)
theorem dks_keys [WW] {K : PySem.W.Frag} {H : Hp} : ∀ {xs : List XE} {es : List (D × D)}, DKs K H xs es → es.map (·.1) = xs.map (·.1.data)
  | _, _, .nil => rfl
  | _, _, .cons _ _ t => by rw [List.map_cons, List.map_cons, dks_keys t]
theorem dks_vals [WW] {K : PySem.W.Frag} {H : Hp} : ∀ {xs : List XE} {es : List (D × D)}, DKs K H xs es → DVs K H (xs.map (·.2.2)) (es.map (·.2))
  | _, _, .nil => .nil
  | _, _, .cons _ h t => .cons h (dks_vals t)

/-- a dict with tuple keys, or an empty one -/
def IsXe [WW] (H : Hp) (a : Addr) (xs : List XE) : Prop := Rd H a (DXo a xs) ∨ (xs = [] ∧ Rd H a (.dK []))
theorem isxe_of (I : L2.Inv X pins σ H s) {a : Addr} {xs : List XE} {es : List (D × D)} (e : @IsXe ⟨X.w⟩ H a xs) (h : @DKs ⟨X.w⟩ X.K H xs es) :
    ∃ ys, XEs xs ys ∧ s.heap.DictOfH (nestedKind X.prog X.w) a ys ∧ (a == sysModules) = false := by
  refine NoI.keep (fun _ wNoI => ?_) ?_
  simp only [↓ NoI.wrOf wNoI (by
  clear wNoI
  rcases e with e | ⟨rfl, e⟩
  · obtain ⟨ys, h1, h2, _, h4⟩ := dx_of I e h
    exact ⟨ys, h1, h2, h4⟩
  · obtain ⟨h1, h2⟩ := dk_nil I e
    exact ⟨[], .nil, h1, h2⟩
  )]
  intro _ hNoI
  simpa using (fun (_ : NoI.Sg) => hNoI) [5]
mutual
theorem nd_injE : ∀ (a b : NestedKey), a.data = b.data → a = b
  | .none, .none, _ => rfl
  | .num i, .num j, h => by simp only [NestedKey.data, PyData.int.injEq] at h; rw [h]
  | .text i, .text j, h => by simp only [NestedKey.data, PyData.str.injEq] at h; rw [h]
  | .tup i, .tup j, h => by simp only [NestedKey.data, PyData.tuple.injEq] at h; rw [nds_injE i j h]
  | .none, .num _, h | .none, .text _, h | .none, .tup _, h => by simp [NestedKey.data] at h
  | .num _, .none, h | .num _, .text _, h | .num _, .tup _, h => by simp [NestedKey.data] at h
  | .text _, .none, h | .text _, .num _, h | .text _, .tup _, h => by simp [NestedKey.data] at h
  | .tup _, .none, h | .tup _, .num _, h | .tup _, .text _, h => by simp [NestedKey.data] at h
theorem nds_injE : ∀ (a b : List NestedKey), NestedKey.datas a = NestedKey.datas b → a = b
  | [], [], _ => rfl
  | a :: as, b :: bs, h => by
    simp only [NestedKey.datas, List.cons.injEq] at h
    rw [nd_injE a b h.1, nds_injE as bs h.2]
  | [], _ :: _, h => by simp [NestedKey.datas] at h
  | _ :: _, [], h => by simp [NestedKey.datas] at h
end
/-- keys that are ints and strings, and keys that are objects: none -/
theorem dk_noX [WW] {K : PySem.W.Frag} {H : Hp} {kvs : List (Key × V)} {xs : List XE} {es : List (D × D)} (h1 : es.map (·.1) = kvs.map (fun p => kD p.1)) (h2 : DKs K H xs es) : es = [] ∧ kvs = [] := by
  refine NoI.keep (fun _ wNoI => ?_) ?_
  simp only [↓ NoI.wrOf wNoI (by
  clear wNoI
  cases h2 with
  | nil => cases kvs with
    | nil => exact ⟨rfl, rfl⟩
    | cons p r => simp at h1
  | cons a1 a2 a3 =>
    cases kvs with
    | nil => simp at h1
    | cons p r =>
      simp only [List.map_cons, List.cons.injEq] at h1
      have h := h1.1
      obtain ⟨k, v⟩ := p
      rw [h] at a1
      cases k <;> cases a1
  )]
  intro _ hNoI
  simpa using (fun (_ : NoI.Sg) => hNoI) [5]
/-- dicts with keys that are objects, of the same entries -/
theorem allIn_of {P : Program} {w : World} {A : Around} {xs ys : List (NestedKey × Addr × Value)} (hk : xs.map (·.1) = ys.map (·.1)) (h : ∀ (j : Nat) (u w' : Value), (xs.map (·.2.2))[j]? = some u → (ys.map (·.2.2))[j]? = some w' → SeqAt.EqP P w A s u w' true) :
    AllIn P w A s xs ys := fun i k b v hx => by
  have hl : xs.length = ys.length := by have := congrArg List.length hk; simpa using this
  have hi := (List.getElem?_eq_some_iff.mp hx).1
  obtain ⟨⟨k', c, u⟩, hy⟩ : ∃ p, ys[i]? = some p := ⟨ys[i]'(by omega), List.getElem?_eq_getElem _⟩
  have e : (xs.map (·.1))[i]? = (ys.map (·.1))[i]? := by rw [hk]
  rw [List.getElem?_map, List.getElem?_map, hx, hy] at e
  simp only [Option.map_some, Option.some.injEq] at e
  subst e
  exact ⟨i, c, u, hy, h i v u (by rw [List.getElem?_map, hx]; rfl) (by rw [List.getElem?_map, hy]; rfl)⟩
/-- == of two objects that tell the same -/
def RcS (X : Cx) (s : Shared) (A : Around) (a b : Addr) : Prop := ∀ E Q : Value → Shared → Prop, Q (.bool true) s → wpAny (model X.prog X.w) A (richCompare .Eq (.ref a) (.ref b)) Q E s
theorem RcS.eqP {X : Cx} {s : Shared} {A : Around} {a b : Addr} (h : RcS X s A a b) : SeqAt.EqP X.prog X.w A s (.ref a) (.ref b) true := by
  by_cases e : a = b
  · subst e; exact eqP_self
  · exact SeqAt.eqP_refs e h
theorem dX_rc (I : L2.Inv X pins σ H s) {a b : Addr} {xs ys : List XE} {es : List (D × D)} {n : Nat} (ha : @IsXe ⟨X.w⟩ H a xs) (hb : @IsXe ⟨X.w⟩ H b ys) (da : @DKs ⟨X.w⟩ X.K H xs es) (db : @DKs ⟨X.w⟩ X.K H ys es)
    (ih : ∀ us ws, Vals (xs.map (·.2.2)) us → Vals (ys.map (·.2.2)) ws → EqDs X s us ws n) (A : Around) (hu : A.units + (n + 1) + 16 < cLine) : RcS X s A a b := by
  refine NoI.keep (fun _ wNoI => ?_) ?_
  simp only [↓ NoI.wrOf wNoI (by
  clear wNoI
  obtain ⟨xa, ra, Da, sa⟩ := isxe_of I ha da
  obtain ⟨xb, rb, Db, sb⟩ := isxe_of I hb db
  have hk : xa.map (·.1) = xb.map (·.1) := by
    have h1 := @dks_keys ⟨X.w⟩ _ _ _ _ da
    rw [@dks_keys ⟨X.w⟩ _ _ _ _ db] at h1
    rw [← xes_key ra, ← xes_key rb]
    have : (ys.map (·.1)).map NestedKey.data = (xs.map (·.1)).map NestedKey.data := by rw [List.map_map, List.map_map]; exact h1
    exact ((List.map_inj_right (fun p q z => nd_injE p q z)).mp this).symm
  have hd := ih _ _ (xes_val ra) (xes_val rb)
  have hl : xa.length = xb.length := by have := congrArg List.length hk; simpa using this
  exact fun E Q q => rcX_dicts (by show A.units + 1 + 8 < cLine; omega) sa sb Da Db (by omega) hl (allIn_of hk fun j u w' h1 h2 => hd.2 A.in1 (by show A.units + 1 + n + 16 < cLine; omega) j u w' h1 h2) E Q q
  )]
  intro _ hNoI
  simpa using (fun (_ : NoI.Sg) => hNoI) [5]
theorem dK_rc (I : L2.Inv X pins σ H s) {a b : Addr} {xs ys : List (Key × V)} {es : List (D × D)} {n : Nat} (ha : Rd H a (.dK xs)) (hb : Rd H b (.dK ys)) (da : es.map (·.1) = xs.map (fun p => kD p.1)) (db : es.map (·.1) = ys.map (fun p => kD p.1))
    (ih : ∀ us ws, Vals (xs.map (·.2)) us → Vals (ys.map (·.2)) ws → EqDs X s us ws n) (A : Around) (hu : A.units + (n + 1) + 16 < cLine) : RcS X s A a b := by
  refine NoI.keep (fun _ wNoI => ?_) ?_
  simp only [↓ NoI.wrOf wNoI (by
  clear wNoI
  obtain ⟨_, sa, va, ra, Da⟩ := dk_rd I.hok ha
  obtain ⟨_, sb, vb, rb, Db⟩ := dk_rd I.hok hb
  have hk : va.map (·.1) = vb.map (·.1) := by rw [← ra.keys, ← rb.keys]; exact kd_fst da db
  have hd := ih _ _ (kv_val ra) (kv_val rb)
  have hl : va.length = vb.length := by have := congrArg List.length hk; simpa using this
  obtain ⟨_, _, _, _, _, _, _, _, nb⟩ := id Db
  refine fun E Q q => PySem.W.rcP_dicts sa sb Da Db (by omega) (fun _ => hits_all (r := va) fun i k v hi => ?_) E Q (by rw [hl]; simpa using q)
  have hlt := (List.getElem?_eq_some_iff.mp hi).1
  obtain ⟨⟨k', u⟩, hy⟩ : ∃ p, vb[i]? = some p := ⟨vb[i]'(by omega), List.getElem?_eq_getElem _⟩
  have e2 : (va.map (·.1))[i]? = (vb.map (·.1))[i]? := by rw [hk]
  rw [List.getElem?_map, List.getElem?_map, hi, hy] at e2
  simp only [Option.map_some, Option.some.injEq] at e2
  subst e2
  exact ⟨u, valueAt_at nb hy, hd.2 A.in1 (by show A.units + 1 + n + 16 < cLine; omega) i v u (by rw [List.getElem?_map, hi]; rfl) (by rw [List.getElem?_map, hy]; rfl)⟩
  )]
  intro _ hNoI
  simpa using (fun (_ : NoI.Sg) => hNoI) [5]
theorem lst_rc (I : L2.Inv X pins σ H s) {a b : Addr} {xs ys : List V} {n : Nat} (ha : H a = some (.lst xs)) (hb : H b = some (.lst ys)) (ih : ∀ us ws, Vals xs us → Vals ys ws → EqDs X s us ws n) (A : Around) (hu : A.units + (n + 1) + 16 < cLine) : RcS X s A a b := by
  refine NoI.keep (fun _ wNoI => ?_) ?_
  simp only [↓ NoI.wrOf wNoI (by
  clear wNoI
  obtain ⟨us, ru, ⟨o1, n1, g1, c1, _, d1⟩, _⟩ := I.list (X := X) (SqL.of ha)
  obtain ⟨ws, rw', ⟨o2, n2, g2, c2, _, d2⟩, _⟩ := I.list (X := X) (SqL.of hb)
  have hd := ih _ _ ru rw'
  refine fun E Q q => SeqAt.rcP_lists (e := fun _ => true) ⟨o1, g1, c1, n1, d1⟩ ⟨o2, g2, c2, n2, d2⟩ (by simpa using hd.1) (by omega) (fun j h1 h2 => hd.2 A.in1 (by show A.units + 1 + n + 16 < cLine; omega) j _ _ (by simp) (by simp)) E Q (by rw [all_true]; exact q)
  )]
  intro _ hNoI
  simpa using (fun (_ : NoI.Sg) => hNoI) [5]
theorem tup_rc (I : L2.Inv X pins σ H s) {a b : Addr} {xs ys : List V} {n : Nat} (ha : SqT X.K H a xs) (hb : SqT X.K H b ys) (ih : ∀ us ws, Vals xs us → Vals ys ws → EqDs X s us ws n) (A : Around) (hu : A.units + (n + 1) + 16 < cLine) : RcS X s A a b := by
  refine NoI.keep (fun _ wNoI => ?_) ?_
  simp only [↓ NoI.wrOf wNoI (by
  clear wNoI
  obtain ⟨us, ru, ⟨o1, g1, c1, n1, d1⟩, _⟩ := I.tuple ha
  obtain ⟨ws, rw', ⟨o2, g2, c2, n2, d2⟩, _⟩ := I.tuple hb
  have hd := ih _ _ ru rw'
  refine fun E Q q => SeqAt.rcIn_tuples (e := fun _ => true) ⟨o1, g1, c1, n1, d1⟩ ⟨o2, g2, c2, n2, d2⟩ (by omega) (fun j h1 h2 => hd.2 A.in1 (by show A.units + 1 + n + 16 < cLine; omega) j _ _ (by simp) (by simp)) (by rw [all_true]; simpa [hd.1] using q)
  )]
  intro _ hNoI
  simpa using (fun (_ : NoI.Sg) => hNoI) [5]
mutual
theorem eqD (I : L2.Inv X pins σ H s) : ∀ (d : D) (x y : V) (u w : Value), @DV ⟨X.w⟩ X.K H x d → @DV ⟨X.w⟩ X.K H y d → RelV x u → RelV y w → ∀ A : Around, A.units + d.depth + 16 < cLine → SeqAt.EqP X.prog X.w A s u w true
  | .none, _, _, _, _, h1, h2, r1, r2, A, hu => by
    cases h1; cases h2; cases r1; cases r2
    exact eqP_self
  | .bool b, _, _, _, _, h1, h2, r1, r2, A, hu => by
    cases h1; cases h2; cases r1; cases r2
    exact eqP_self
  | .int i, _, _, _, _, h1, h2, r1, r2, A, hu => by
    cases h1; cases h2
    obtain ⟨t1, rfl⟩ := r1
    obtain ⟨t2, rfl⟩ := r2
    have := PySem.W.keq_flat (A := A) (s := s) (v := .int i t1) (y := .int i t2) (d := .int i) (e := .int i) (.int i t1) (.int i t2)
    rw [show PyData.eqv (.int i) (.int i) = true by simp [PyData.eqv]] at this
    exact this.eqP
  | .str z, _, _, _, _, h1, h2, r1, r2, A, hu => by
    cases h1; cases h2
    obtain ⟨t1, rfl⟩ := r1
    obtain ⟨t2, rfl⟩ := r2
    have := PySem.W.keq_flat (A := A) (s := s) (v := .str z t1) (y := .str z t2) (d := .str z) (e := .str z) (.str z t1) (.str z t2)
    rw [show PyData.eqv (.str z) (.str z) = true by simp [PyData.eqv]] at this
    exact this.eqP
  | .list ds, _, _, _, _, h1, h2, r1, r2, A, hu => by
    cases h1 with
    | lst a1 b1 =>
      cases h2 with
      | lst a2 b2 =>
        cases r1; cases r2
        exact RcS.eqP (lst_rc I a1 a2 (fun us ws q1 q2 => eqDs I ds _ _ us ws b1 b2 q1 q2) A (by simpa [PyData.depth] using hu))
  | .tuple ds, _, _, _, _, h1, h2, r1, r2, A, hu => by
    cases h1 with
    | tup a1 b1 =>
      cases h2 with
      | tup a2 b2 =>
        cases r1; cases r2
        exact RcS.eqP (tup_rc I (@TupD.sq ⟨X.w⟩ _ _ _ _ _ a1) (@TupD.sq ⟨X.w⟩ _ _ _ _ _ a2) (fun us ws q1 q2 => eqDs I ds _ _ us ws b1 b2 q1 q2) A (by simpa [PyData.depth] using hu))
  | .dict es, _, _, _, _, h1, h2, r1, r2, A, hu => by
    have hu : A.units + (PyData.depthKv es + 1) + 16 < cLine := by simpa [PyData.depth] using hu
    cases h1 with
    | dK a1 b1 c1 =>
      cases h2 with
      | dK a2 b2 c2 =>
        cases r1; cases r2
        exact RcS.eqP (dK_rc I a1 a2 b1 b2 (fun us ws q1 q2 => eqKs I es _ _ us ws c1 c2 q1 q2) A hu)
      | dX a2 b2 =>
        cases r1; cases r2
        obtain ⟨rfl, rfl⟩ := @dk_noX ⟨X.w⟩ _ _ _ _ _ b1 b2
        cases b2
        exact RcS.eqP (dX_rc I (xs := []) (es := []) (n := PyData.depthKv []) (.inr ⟨rfl, a1⟩) (.inl a2) (@DKs.nil ⟨X.w⟩ _ _) (@DKs.nil ⟨X.w⟩ _ _) (fun us ws q1 q2 => by cases q1; cases q2; exact ⟨rfl, fun _ _ _ _ _ h => by simp at h⟩) A hu)
    | dX a1 b1 =>
      cases h2 with
      | dK a2 b2 c2 =>
        cases r1; cases r2
        obtain ⟨rfl, rfl⟩ := @dk_noX ⟨X.w⟩ _ _ _ _ _ b2 b1
        cases b1
        exact RcS.eqP (dX_rc I (ys := []) (es := []) (n := PyData.depthKv []) (.inl a1) (.inr ⟨rfl, a2⟩) (@DKs.nil ⟨X.w⟩ _ _) (@DKs.nil ⟨X.w⟩ _ _) (fun us ws q1 q2 => by cases q1; cases q2; exact ⟨rfl, fun _ _ _ _ _ h => by simp at h⟩) A hu)
      | dX a2 b2 =>
        cases r1; cases r2
        exact RcS.eqP (dX_rc I (.inl a1) (.inl a2) b1 b2 (fun us ws q1 q2 => eqKs I es _ _ us ws (@dks_vals ⟨X.w⟩ _ _ _ _ b1) (@dks_vals ⟨X.w⟩ _ _ _ _ b2) q1 q2) A hu)
theorem eqDs (I : L2.Inv X pins σ H s) : ∀ (ds : List D) (xs ys : List V) (us ws : List Value), @DVs ⟨X.w⟩ X.K H xs ds → @DVs ⟨X.w⟩ X.K H ys ds → Vals xs us → Vals ys ws → EqDs X s us ws (PyData.depthAll ds)
  | [], _, _, _, _, h1, h2, r1, r2 => by
    cases h1; cases h2; cases r1; cases r2
    exact ⟨rfl, fun _ _ _ _ _ h => by simp at h⟩
  | d :: ds, _, _, _, _, h1, h2, r1, r2 => by
    cases h1 with
    | cons a1 b1 =>
      cases h2 with
      | cons a2 b2 =>
        cases r1 with
        | cons p1 q1 =>
          cases r2 with
          | cons p2 q2 =>
            have z : PyData.depthAll (d :: ds) = max d.depth (PyData.depthAll ds) := by simp [PyData.depthAll]
            rw [z]
            exact .cons (fun A hu => eqD I d _ _ _ _ a1 a2 p1 p2 A (by omega)) ((eqDs I ds _ _ _ _ b1 b2 q1 q2).less (by omega))
theorem eqKs (I : L2.Inv X pins σ H s) : ∀ (es : List (D × D)) (xs ys : List V) (us ws : List Value), @DVs ⟨X.w⟩ X.K H xs (es.map (·.2)) → @DVs ⟨X.w⟩ X.K H ys (es.map (·.2)) → Vals xs us → Vals ys ws → EqDs X s us ws (PyData.depthKv es)
  | [], _, _, _, _, h1, h2, r1, r2 => by
    cases h1; cases h2; cases r1; cases r2
    exact ⟨rfl, fun _ _ _ _ _ h => by simp at h⟩
  | (k, d) :: es, _, _, _, _, h1, h2, r1, r2 => by
    cases h1 with
    | cons a1 b1 =>
      cases h2 with
      | cons a2 b2 =>
        cases r1 with
        | cons p1 q1 =>
          cases r2 with
          | cons p2 q2 =>
            have z : PyData.depthKv ((k, d) :: es) = max (max k.depth d.depth) (PyData.depthKv es) := by simp [PyData.depthKv]
            rw [z]
            exact .cons (fun A hu => eqD I d _ _ _ _ a1 a2 p1 p2 A (by omega)) ((eqKs I es _ _ _ _ b1 b2 q1 q2).less (by omega))
end
/-- lists, tuples, dicts -/
def boxD : D → Bool
  | .list _ => true
  | .tuple _ => true
  | .dict _ => true
  | _ => false
theorem rcD (I : L2.Inv X pins σ H s) {d : D} {x y : V} {u w : Value} (hb : boxD d = true) (h1 : @DV ⟨X.w⟩ X.K H x d) (h2 : @DV ⟨X.w⟩ X.K H y d) (r1 : RelV x u) (r2 : RelV y w) (A : Around) (hu : A.units + d.depth + 16 < cLine) :
    ∃ a b, u = .ref a ∧ w = .ref b ∧ RcS X s A a b := by
  refine NoI.keep (fun _ wNoI => ?_) ?_
  simp only [↓ NoI.wrOf wNoI (by
  clear wNoI
  cases h1 with
  | non => cases hb
  | bl _ => cases hb
  | int _ => cases hb
  | str _ => cases hb
  | lst a1 b1 =>
    cases h2 with
    | lst a2 b2 =>
      cases r1; cases r2
      exact ⟨_, _, rfl, rfl, lst_rc I a1 a2 (fun us ws q1 q2 => eqDs I _ _ _ us ws b1 b2 q1 q2) A (by simpa [PyData.depth] using hu)⟩
  | tup a1 b1 =>
    cases h2 with
    | tup a2 b2 =>
      cases r1; cases r2
      exact ⟨_, _, rfl, rfl, tup_rc I (@TupD.sq ⟨X.w⟩ _ _ _ _ _ a1) (@TupD.sq ⟨X.w⟩ _ _ _ _ _ a2) (fun us ws q1 q2 => eqDs I _ _ _ us ws b1 b2 q1 q2) A (by simpa [PyData.depth] using hu)⟩
  | @dK _ _ es a1 b1 c1 =>
    have hu : A.units + (PyData.depthKv es + 1) + 16 < cLine := by simpa [PyData.depth] using hu
    cases h2 with
    | dK a2 b2 c2 =>
      cases r1; cases r2
      exact ⟨_, _, rfl, rfl, dK_rc I a1 a2 b1 b2 (fun us ws q1 q2 => eqKs I es _ _ us ws c1 c2 q1 q2) A hu⟩
    | dX a2 b2 =>
      cases r1; cases r2
      obtain ⟨rfl, rfl⟩ := @dk_noX ⟨X.w⟩ _ _ _ _ _ b1 b2
      cases b2
      exact ⟨_, _, rfl, rfl, dX_rc I (xs := []) (es := []) (n := PyData.depthKv []) (.inr ⟨rfl, a1⟩) (.inl a2) (@DKs.nil ⟨X.w⟩ _ _) (@DKs.nil ⟨X.w⟩ _ _) (fun us ws q1 q2 => by cases q1; cases q2; exact ⟨rfl, fun _ _ _ _ _ h => by simp at h⟩) A hu⟩
  | @dX _ _ es a1 b1 =>
    have hu : A.units + (PyData.depthKv es + 1) + 16 < cLine := by simpa [PyData.depth] using hu
    cases h2 with
    | dK a2 b2 c2 =>
      cases r1; cases r2
      obtain ⟨rfl, rfl⟩ := @dk_noX ⟨X.w⟩ _ _ _ _ _ b2 b1
      cases b1
      exact ⟨_, _, rfl, rfl, dX_rc I (ys := []) (es := []) (n := PyData.depthKv []) (.inl a1) (.inr ⟨rfl, a2⟩) (@DKs.nil ⟨X.w⟩ _ _) (@DKs.nil ⟨X.w⟩ _ _) (fun us ws q1 q2 => by cases q1; cases q2; exact ⟨rfl, fun _ _ _ _ _ h => by simp at h⟩) A hu⟩
    | dX a2 b2 =>
      cases r1; cases r2
      exact ⟨_, _, rfl, rfl, dX_rc I (.inl a1) (.inl a2) b1 b2 (fun us ws q1 q2 => eqKs I es _ _ us ws (@dks_vals ⟨X.w⟩ _ _ _ _ b1) (@dks_vals ⟨X.w⟩ _ _ _ _ b2) q1 q2) A hu⟩
  )]
  intro _ hNoI
  simpa using (fun (_ : NoI.Sg) => hNoI) [5]
/-- x == y, of two that tell the same -/
def rEqV [WW] (K : PySem.W.Frag) : R2 := fun x y H Q => ∃ d, DV K H x d ∧ DV K H y d ∧ d.depth ≤ 40 ∧ Q (.bl true) H
theorem op_eqV {X : Cx} (hu : X.A.units + 64 < cLine) : OpR X (compareOp .Eq) (@rEqV ⟨X.w⟩ X.K) := by
  refine NoI.keep (fun _ wNoI => ?_) ?_
  simp only [↓ NoI.wrOf wNoI (by
  clear wNoI
  intro pins s σ H x y v u Q I rx ry h
  obtain ⟨d, hd, he, hz, q⟩ := h
  cases hb : boxD d with
  | true =>
    obtain ⟨a, b, rfl, rfl, R⟩ := rcD I hb hd he rx ry X.A (by omega)
    exact R _ _ ⟨.bl true, H, I, rfl, q⟩
  | false =>
    have flat : ∃ z : V, x = z ∧ y = z ∧ scal z z = true := by
      cases d with
      | none => cases hd; cases he; exact ⟨_, rfl, rfl, rfl⟩
      | bool b => cases hd; cases he; exact ⟨_, rfl, rfl, rfl⟩
      | int i => cases hd; cases he; exact ⟨_, rfl, rfl, rfl⟩
      | str z => cases hd; cases he; exact ⟨_, rfl, rfl, rfl⟩
      | list _ => cases hb
      | tuple _ => cases hb
      | dict _ => cases hb
    obtain ⟨z, rfl, rfl, hs⟩ := flat
    exact op_eq pins s σ H _ _ v u Q I rx ry ⟨hs, by rw [decide_eq_true rfl]; exact q⟩
  )]
  intro _ hNoI
  simpa using (fun (_ : NoI.Sg) => hNoI) [5]
end
end SH

/-! dicts whose keys are tuples: d[k], k in d, d[k] = v, dict(pairs) -/
namespace SH
open PySem PySem.Spec PyProof.Rows L2
section
variable [WW] {K : PySem.W.Frag} {H : Hp}
/-- a dict with tuple keys, or an empty one -/
def IsX (H : Hp) (a : Addr) (xs : List XE) : Prop := Rd H a (DXo a xs) ∨ (xs = [] ∧ Rd H a (.dK []))
/-- .. that may be written -/
def IsXw (H : Hp) (a : Addr) (xs : List XE) : Prop := H a = some (DXo a xs) ∨ (xs = [] ∧ H a = some (.dK []))
theorem IsXw.rd {a : Addr} {xs : List XE} (h : IsXw H a xs) : IsX H a xs := h.imp .inl fun h => ⟨h.1, .inl h.2⟩
abbrev TK := List NestedKey
def kx (k : TK) : D := .tuple (NestedKey.datas k)
def dx (es : List (TK × D)) : List (D × D) := es.map fun p => (kx p.1, p.2)
mutual
theorem nd_inj : ∀ (a b : NestedKey), a.data = b.data → a = b
  | .none, .none, _ => rfl
  | .num i, .num j, h => by simp only [NestedKey.data, PyData.int.injEq] at h; rw [h]
  | .text i, .text j, h => by simp only [NestedKey.data, PyData.str.injEq] at h; rw [h]
  | .tup i, .tup j, h => by simp only [NestedKey.data, PyData.tuple.injEq] at h; rw [nds_inj i j h]
  | .none, .num _, h | .none, .text _, h | .none, .tup _, h => by simp [NestedKey.data] at h
  | .num _, .none, h | .num _, .text _, h | .num _, .tup _, h => by simp [NestedKey.data] at h
  | .text _, .none, h | .text _, .num _, h | .text _, .tup _, h => by simp [NestedKey.data] at h
  | .tup _, .none, h | .tup _, .num _, h | .tup _, .text _, h => by simp [NestedKey.data] at h
theorem nds_inj : ∀ (a b : List NestedKey), NestedKey.datas a = NestedKey.datas b → a = b
  | [], [], _ => rfl
  | a :: as, b :: bs, h => by
    simp only [NestedKey.datas, List.cons.injEq] at h
    rw [nd_inj a b h.1, nds_inj as bs h.2]
  | [], _ :: _, h => by simp [NestedKey.datas] at h
  | _ :: _, [], h => by simp [NestedKey.datas] at h
end
/-- entries with tuples for keys -/
inductive KX (K : PySem.W.Frag) (H : Hp) : List XE → List (TK × D) → Prop
  | nil : KX K H [] []
  | cons {k : TK} {a : Addr} {v : V} {d : D} {xs : List XE} {es : List (TK × D)} : DV K H (.ref a) (kx k) → DV K H v d → KX K H xs es → KX K H ((.tup k, a, v) :: xs) ((k, d) :: es)
theorem KX.dks : ∀ {xs : List XE} {es : List (TK × D)}, KX K H xs es → DKs K H xs (dx es)
  | _, _, .nil => .nil
  | _, _, .cons h1 h2 h3 => .cons (k := .tup _) h1 h2 h3.dks
theorem KX.of : ∀ {xs : List XE} {es : List (TK × D)}, DKs K H xs (dx es) → KX K H xs es
  | [], [], _ => .nil
  | (k, a, v) :: xs, (j, d) :: es, h => by
    generalize hq : dx ((j, d) :: es) = q at h
    cases h with
    | cons h1 h2 h3 =>
      simp only [dx, List.map_cons, List.cons.injEq, Prod.mk.injEq] at hq
      obtain ⟨⟨q1, q2⟩, q3⟩ := hq
      have : k = .tup j := nd_inj _ _ (by rw [← q1]; rfl)
      subst this
      rw [← q2] at h2
      rw [← q3] at h3
      exact .cons h1 h2 (KX.of h3)
  | [], _ :: _, h => by simp only [dx, List.map_cons] at h; cases h
  | _ :: _, [], h => by simp only [dx, List.map_nil] at h; cases h
theorem KX.mono {H' : Hp} (e : Same H H') : ∀ {xs : List XE} {es : List (TK × D)}, KX K H xs es → KX K H' xs es
  | _, _, .nil => .nil
  | _, _, .cons h1 h2 h3 => .cons (dp_mono e _ _ h1) (dp_mono e _ _ h2) (h3.mono e)
theorem KX.len : ∀ {xs : List XE} {es : List (TK × D)}, KX K H xs es → xs.length = es.length
  | _, _, .nil => rfl
  | _, _, .cons _ _ h3 => by simp [h3.len]
/-- int and string keys are no tuples -/
theorem dk_dx {kvs : List (Key × V)} {es : List (TK × D)} (h : (dx es).map (·.1) = kvs.map (fun p => kD p.1)) : es = [] ∧ kvs = [] := by
  refine NoI.keep (fun _ wNoI => ?_) ?_
  simp only [↓ NoI.wrOf wNoI (by
  clear wNoI
  cases es with
  | nil => cases kvs with
    | nil => exact ⟨rfl, rfl⟩
    | cons p r => simp [dx] at h
  | cons e es =>
    cases kvs with
    | nil => simp [dx] at h
    | cons p r =>
      simp only [dx, List.map_cons, List.cons.injEq] at h
      have h := h.1
      obtain ⟨k, v⟩ := p
      cases k <;> simp [kD, kx] at h
  )]
  intro _ hNoI
  simpa using (fun (_ : NoI.Sg) => hNoI) [5]
theorem cell_x {a : Addr} {o : HO} {es : List (TK × D)} (h : Cell K H a o (.dict (dx es))) : ∃ xs, KX K H xs es ∧ (o = DXo a xs ∨ (xs = [] ∧ o = .dK [])) := by
  refine NoI.keep (fun _ wNoI => ?_) ?_
  simp only [↓ NoI.wrOf wNoI (by
  clear wNoI
  generalize hq : dx es = q at h
  cases h with
  | dK h2 h3 =>
    subst hq
    obtain ⟨rfl, rfl⟩ := dk_dx h2
    exact ⟨[], .nil, .inr ⟨rfl, rfl⟩⟩
  | dX h2 =>
    subst hq
    exact ⟨_, KX.of h2, .inl rfl⟩
  )]
  intro _ hNoI
  simpa using (fun (_ : NoI.Sg) => hNoI) [5]
theorem dv_x {v : V} {es : List (TK × D)} (h : DV K H v (.dict (dx es))) : ∃ a xs, v = .ref a ∧ KX K H xs es ∧ IsX H a xs := by
  refine NoI.keep (fun _ wNoI => ?_) ?_
  simp only [↓ NoI.wrOf wNoI (by
  clear wNoI
  generalize hq : dx es = q at h
  cases h with
  | dK h1 h2 h3 =>
    subst hq
    obtain ⟨rfl, rfl⟩ := dk_dx h2
    exact ⟨_, [], rfl, .nil, .inr ⟨rfl, h1⟩⟩
  | dX h1 h2 =>
    subst hq
    exact ⟨_, _, rfl, KX.of h2, .inl h1⟩
  )]
  intro _ hNoI
  simpa using (fun (_ : NoI.Sg) => hNoI) [5]
end
theorem isx_of {X : Cx} {pins : List (Addr × Obj)} {σ : L2.St} {H : Hp} {s : Shared} {a : Addr} {xs : List XE} {es : List (D × D)} (I : L2.Inv X pins σ H s) (e : @IsX ⟨X.w⟩ H a xs) (h : @DKs ⟨X.w⟩ X.K H xs es) :
    ∃ ys, XEs xs ys ∧ s.heap.DictOfH (nestedKind X.prog X.w) a ys ∧ (xs.length ≤ sizeLine ∧ ∀ x ∈ xs, x.1.depth ≤ 8) ∧ (a == sysModules) = false := by
  refine NoI.keep (fun _ wNoI => ?_) ?_
  simp only [↓ NoI.wrOf wNoI (by
  clear wNoI
  rcases e with e | ⟨rfl, e⟩
  · obtain ⟨ys, h1, h2, h3, h4⟩ := dx_of I e h
    exact ⟨ys, h1, h2, h3, h4⟩
  · obtain ⟨h1, h2⟩ := dk_nil I e
    exact ⟨[], .nil, h1, ⟨Nat.zero_le _, by simp⟩, h2⟩
  )]
  intro _ hNoI
  simpa using (fun (_ : NoI.Sg) => hNoI) [5]
/-- what is held at a key -/
def lkX (es : List (TK × D)) (k : TK) : Option D := (es.find? fun p => decide (p.1 = k)).map (·.2)
def ptX (es : List (TK × D)) (k : TK) (d : D) : List (TK × D) := if (lkX es k).isSome then es.map (fun p => if p.1 = k then (p.1, d) else p) else es ++ [(k, d)]
def atX (xs : List XE) (k : TK) : Option V := (xs.find? fun x => decide (x.1 = .tup k)).map (·.2.2)
def putX (xs : List XE) (k : TK) (b : Addr) (v : V) : List XE := if (atX xs k).isSome then xs.map (fun x => if x.1 = .tup k then (x.1, x.2.1, v) else x) else xs ++ [(.tup k, b, v)]
theorem tup_inj {a b : TK} : (NestedKey.tup a = NestedKey.tup b) ↔ a = b := ⟨fun h => by cases h; rfl, fun h => by rw [h]⟩
theorem xes_at : ∀ {xs : List XE} {ys : List (NestedKey × Addr × Value)} {k : TK}, XEs xs ys → RelO (atX xs k) ((atKey ys (.tup k)).map (·.2))
  | _, _, _, .nil => by simp [atX, atKey, RelO]
  | _, _, k, .cons (a := x) (b := y) r t => by
    have ih := xes_at (k := k) t
    obtain ⟨e1, e2, e3⟩ := r
    by_cases e : x.1 = .tup k
    · have e' : y.1 = .tup k := by rw [← e1]; exact e
      simp only [atX, atKey, List.find?_cons, e, e', decide_true, Option.map_some]
      exact e3
    · have e' : ¬ y.1 = .tup k := by rw [← e1]; exact e
      simp only [atX, atKey, List.find?_cons, e, e', decide_false] at ih ⊢
      exact ih
theorem relO_isS {o : Option V} {u : Option Value} (h : RelO o u) : o.isSome = u.isSome := by
  cases o <;> cases u <;> first | rfl | cases h
section
variable [WW]
mutual
theorem dv_K {K K' : PySem.W.Frag} {H : Hp} : ∀ (v : V) (d : D), DV K H v d → DV K' H v d
  | _, _, .non => .non
  | _, _, .bl b => .bl b
  | _, _, .int i => .int i
  | _, _, .str x => .str x
  | _, _, .lst h1 h2 => .lst h1 (dvs_K _ _ h2)
  | _, _, .tup h1 h2 => .tup h1 (dvs_K _ _ h2)
  | _, _, .dK h1 h2 h3 => .dK h1 h2 (dvs_K _ _ h3)
  | _, _, .dX h1 h2 => .dX h1 (dks_K _ _ h2)
theorem dvs_K {K K' : PySem.W.Frag} {H : Hp} : ∀ (vs : List V) (ds : List D), DVs K H vs ds → DVs K' H vs ds
  | _, _, .nil => .nil
  | _, _, .cons h1 h2 => .cons (dv_K _ _ h1) (dvs_K _ _ h2)
theorem dks_K {K K' : PySem.W.Frag} {H : Hp} : ∀ (xs : List XE) (es : List (D × D)), DKs K H xs es → DKs K' H xs es
  | _, _, .nil => .nil
  | _, _, .cons h1 h2 h3 => .cons (dv_K _ _ h1) (dv_K _ _ h2) (dks_K _ _ h3)
end
theorem KX.kk {K K' : PySem.W.Frag} {H : Hp} : ∀ {xs : List XE} {es : List (TK × D)}, KX K H xs es → KX K' H xs es
  | _, _, .nil => .nil
  | _, _, .cons h1 h2 h3 => .cons (dv_K _ _ h1) (dv_K _ _ h2) h3.kk
section
variable {K : PySem.W.Frag} {H : Hp}
theorem KX.at : ∀ {xs : List XE} {es : List (TK × D)} {k : TK}, KX K H xs es → (∀ d, lkX es k = some d → ∃ v, atX xs k = some v ∧ DV K H v d) ∧ (lkX es k = none → atX xs k = none)
  | _, _, _, .nil => ⟨fun d h => by simp [lkX] at h, fun _ => rfl⟩
  | _, _, k, .cons (k := j) (xs := xs) (es := es) h1 h2 h3 => by
    by_cases e : j = k
    · subst e
      refine ⟨fun d h => ?_, fun h => by simp [lkX] at h⟩
      simp [lkX] at h
      subst h
      exact ⟨_, by simp [atX], h2⟩
    · have ih := h3.at (k := k)
      have e' : ¬ NestedKey.tup j = NestedKey.tup k := fun z => e (tup_inj.mp z)
      refine ⟨fun d h => ?_, fun h => ?_⟩
      · have h : lkX es k = some d := by simpa [lkX, e] using h
        obtain ⟨v, q1, q2⟩ := ih.1 d h
        exact ⟨v, by simpa [atX, e'] using q1, q2⟩
      · have h : lkX es k = none := by simpa [lkX, e] using h
        simpa [atX, e'] using ih.2 h
theorem KX.isS {xs : List XE} {es : List (TK × D)} (h : KX K H xs es) (k : TK) : (atX xs k).isSome = (lkX es k).isSome := by
  cases e : lkX es k with
  | none => rw [(h.at (k := k)).2 e]; rfl
  | some d => obtain ⟨v, q, _⟩ := (h.at (k := k)).1 d e; rw [q]; rfl
theorem KX.repl {k : TK} {v : V} {d : D} (r : DV K H v d) : ∀ {xs : List XE} {es : List (TK × D)}, KX K H xs es → KX K H (xs.map (fun x => if x.1 = .tup k then (x.1, x.2.1, v) else x)) (es.map (fun p => if p.1 = k then (p.1, d) else p))
  | _, _, .nil => .nil
  | _, _, .cons (k := j) h1 h2 h3 => by
    rw [List.map_cons, List.map_cons]
    by_cases e : j = k
    · rw [if_pos e, if_pos (by simpa using e)]
      exact .cons h1 r (h3.repl r)
    · rw [if_neg e, if_neg (fun z => e (tup_inj.mp z))]
      exact .cons h1 h2 (h3.repl r)
theorem KX.append : ∀ {xs ys : List XE} {es fs : List (TK × D)}, KX K H xs es → KX K H ys fs → KX K H (xs ++ ys) (es ++ fs)
  | _, _, _, _, .nil, h => h
  | _, _, _, _, .cons h1 h2 h3, h => .cons h1 h2 (h3.append h)
theorem KX.put {xs : List XE} {es : List (TK × D)} {k : TK} {b : Addr} {v : V} {d : D} (h : KX K H xs es) (hb : DV K H (.ref b) (kx k)) (r : DV K H v d) : KX K H (putX xs k b v) (ptX es k d) := by
  unfold putX ptX
  rw [h.isS k]
  split
  · exact h.repl r
  · exact h.append (.cons hb r .nil)
end
/-- a key, there -/
def KeyX (K : PySem.W.Frag) (H : Hp) (b : Addr) (k : TK) : Prop := DV K H (.ref b) (kx k) ∧ (NestedKey.tup k).depth ≤ 8
def rIxV (K : PySem.W.Frag) : R2 := fun x y H Q => ∃ (a b : Addr) (xs : List XE) (es : List (TK × D)) (k : TK) (v : V), x = .ref a ∧ y = .ref b ∧ IsX H a xs ∧ KX K H xs es ∧ KeyX K H b k ∧ atX xs k = some v ∧ Q v H
def rInV (K : PySem.W.Frag) (neg : Bool) : R2 := fun x y H Q => ∃ (a b : Addr) (xs : List XE) (es : List (TK × D)) (k : TK), x = .ref b ∧ y = .ref a ∧ IsX H a xs ∧ KX K H xs es ∧ KeyX K H b k ∧ Q (.bl (if neg then !(atX xs k).isSome else (atX xs k).isSome)) H
def rSetV : TSet := fun o i v H Q => ∃ (K : PySem.W.Frag) (a b : Addr) (xs : List XE) (es : List (TK × D)) (k : TK), o = .ref a ∧ i = .ref b ∧ IsXw H a xs ∧ KX K H xs es ∧ KeyX K H b k ∧ xs.length < sizeLine ∧ Q (upd H a (DXo a (putX xs k b v)))
end
section
variable {X : Cx}
theorem key_is {pins : List (Addr × Obj)} {σ : L2.St} {H : Hp} {s : Shared} {b : Addr} {k : TK} (I : L2.Inv X pins σ H s) (h : @KeyX ⟨X.w⟩ X.K H b k) : (nestedKind X.prog X.w).is s.heap (.tup k) b := by
  obtain ⟨h1, h2⟩ := h
  exact ⟨@nk_is ⟨X.w⟩ X pins σ H s I (.tup k) (.ref b) _ h1 rfl, h2⟩
theorem ix_dx (hu : X.A.units + 64 < cLine) : IxR X (@rIxV ⟨X.w⟩ X.K) := by
  refine NoI.keep (fun _ wNoI => ?_) ?_
  simp only [↓ NoI.wrOf wNoI (by
  clear wNoI
  intro value slice pins s σ H x y v u Q I rx ry h hs
  obtain ⟨a, b, xs, es, k, w, rfl, rfl, hX, hK, hk, e, q⟩ := h
  cases rx; cases ry
  obtain ⟨ys, r, dd, _, _⟩ := isx_of I hX (@KX.dks ⟨X.w⟩ _ _ _ _ hK)
  have ro := xes_at (k := k) r
  rw [e] at ro
  obtain ⟨w', hw, rw'⟩ := RelO.some_of (v := w) (o := (atKey ys (.tup k)).map (·.2)) ro
  obtain ⟨p, hp, hp2⟩ := Option.map_eq_some_iff.mp hw
  refine tail_any dd.typeIs PySem.F.slot_dict_getitem.lookup (wpAny_getItem_heap (knd := nestedKind X.prog X.w) (by show X.A.units + 1 + 8 < cLine; omega) (key_is I hk) dd hp ?_) hs
  rw [hp2]
  exact ⟨w, H, I.tok _, rw', q⟩
  )]
  intro _ hNoI
  simpa using (fun (_ : NoI.Sg) => hNoI) [5]
theorem op_inV (hu : X.A.units + 64 < cLine) : OpR X (compareOp .In) (@rInV ⟨X.w⟩ X.K false) := by
  refine NoI.keep (fun _ wNoI => ?_) ?_
  simp only [↓ NoI.wrOf wNoI (by
  clear wNoI
  intro pins s σ H x y v u Q I rx ry h
  obtain ⟨a, b, xs, es, k, rfl, rfl, hX, hK, hk, q⟩ := h
  cases rx; cases ry
  obtain ⟨ys, r, dd, _, hd⟩ := isx_of I hX (@KX.dks ⟨X.w⟩ _ _ _ _ hK)
  have ro := relO_isS (xes_at (k := k) r)
  rw [Option.isSome_map] at ro
  refine wpAny_in_heap (knd := nestedKind X.prog X.w) (by show X.A.units + 1 + 8 < cLine; omega) (key_is I hk) hd dd ?_
  rw [← ro]
  exact ⟨.bl _, H, I.tok _, rfl, q⟩
  )]
  intro _ hNoI
  simpa using (fun (_ : NoI.Sg) => hNoI) [5]
end
end SH

/-! repr of any data, dicts included -/
namespace SH
open PySem PySem.Spec PyProof.Rows L2
section
variable {X : Cx} {pins : List (Addr × Obj)} {σ : L2.St} {H : Hp} {s : Shared}
/-- what is known of one value: how it reads, and how it is told -/
def Tell (X : Cx) (s : Shared) (u : Value) (d : D) : Prop := ∃ as bs, Reads s.heap u d as ∧ ReadAtMost s.heap d.depth bs ∧ ReprK X.prog X.w bs s.heap d.depth u d.shown
def Tells (X : Cx) (s : Shared) (us : List Value) (ds : List D) : Prop := ∃ as bs, ReadsAll s.heap us ds as ∧ ReadAtMost s.heap (PyData.depthAll ds) bs ∧ ReprAllK X.prog X.w bs s.heap (PyData.depthAll ds) us (PyData.shownAll ds)
theorem Tells.nil : Tells X s [] [] := ⟨_, [], .nil, fun _ h => (by cases h), by rw [PyData.shownAll]; exact .nil⟩
theorem Tells.cons {u : Value} {d : D} {us : List Value} {ds : List D} (h : Tell X s u d) (t : Tells X s us ds) : Tells X s (u :: us) (d :: ds) := by
  refine NoI.keep (fun _ wNoI => ?_) ?_
  simp only [↓ NoI.wrOf wNoI (by
  clear wNoI
  obtain ⟨as, bs, h1, h2, h3⟩ := h
  obtain ⟨cs, es, t1, t2, t3⟩ := t
  have l : d.depth ≤ PyData.depthAll (d :: ds) := by rw [PyData.depthAll]; omega
  have r : PyData.depthAll ds ≤ PyData.depthAll (d :: ds) := by rw [PyData.depthAll]; omega
  refine ⟨_, bs ++ es, .cons h1 t1, (h2.mono l).append (t2.mono r), ?_⟩
  rw [PyData.shownAll]
  exact .cons ((h3.more fun b hb => List.mem_append_left _ hb).level_le l) (t3.more_le (fun b hb => List.mem_append_right _ hb) r)
  )]
  intro _ hNoI
  simpa using (fun (_ : NoI.Sg) => hNoI) [5]
/-- short enough, and of small numbers -/
def Sh (d : D) : Prop := d.showable = true ∧ d.shown.length ≤ sizeLine
def Shs (ds : List D) : Prop := PyData.showableAll ds = true ∧ ∀ t ∈ PyData.shownAll ds, t.length ≤ sizeLine
theorem Shs.head {d : D} {ds : List D} (h : Shs (d :: ds)) : Sh d := ⟨by have := h.1; rw [PyData.showableAll, Bool.and_eq_true] at this; exact this.1, h.2 _ (by rw [PyData.shownAll]; exact List.mem_cons_self)⟩
theorem Shs.tail {d : D} {ds : List D} (h : Shs (d :: ds)) : Shs ds := ⟨by have := h.1; rw [PyData.showableAll, Bool.and_eq_true] at this; exact this.2, fun t ht => h.2 t (by rw [PyData.shownAll]; exact List.mem_cons_of_mem _ ht)⟩
theorem Sh.list {ds : List D} (h : Sh (.list ds)) : Shs ds := ⟨by have := h.1; rwa [PyData.showable] at this, fun t ht => Nat.le_trans (listText_mem_le ht) (by have := h.2; rwa [PyData.shown] at this)⟩
theorem Sh.tuple {ds : List D} (h : Sh (.tuple ds)) : Shs ds := ⟨by have := h.1; rwa [PyData.showable] at this, fun t ht => Nat.le_trans (tupleText_mem_le ht) (by have := h.2; rwa [PyData.shown] at this)⟩
theorem Sh.dict {es : List (D × D)} (h : Sh (.dict es)) : Shs (es.map (·.1)) ∧ Shs (es.map (·.2)) := by
  refine NoI.keep (fun _ wNoI => ?_) ?_
  simp only [↓ NoI.wrOf wNoI (by
  clear wNoI
  obtain ⟨h1, h2⟩ := h
  rw [PyData.showable] at h1
  rw [PyData.shown] at h2
  obtain ⟨a, b⟩ := PyData.showableKv_split es h1
  refine ⟨⟨a, fun t ht => ?_⟩, ⟨b, fun t ht => ?_⟩⟩
  · obtain ⟨p, hp, hl⟩ := PyData.shownKv_key_le es t ht
    exact Nat.le_trans hl (Nat.le_trans (dictText_mem_le hp) h2)
  · obtain ⟨p, hp, hl⟩ := PyData.shownKv_val_le es t ht
    exact Nat.le_trans hl (Nat.le_trans (dictText_mem_le hp) h2)
  )]
  intro _ hNoI
  simpa using (fun (_ : NoI.Sg) => hNoI) [5]
/-- the calls of repr at the top -/
def Told (X : Cx) (s : Shared) (a : Addr) (d : D) : Prop := ∃ T idr, ShowsBy X.prog X.w s.heap a d T idr
theorem lst_tell {a : Addr} {o : Obj} {its : List Value} {n : Nat} {ds : List D} (g1 : s.heap.get? a = some o) (g2 : o.cls = .type "list") (g3 : o.data = .seq its.toArray n) (hz : (PyData.list ds).shown.length ≤ sizeLine) (h : Tells X s its ds) :
    Tell X s (.ref a) (.list ds) ∧ Told X s a (.list ds) := by
  refine NoI.keep (fun _ wNoI => ?_) ?_
  simp only [↓ NoI.wrOf wNoI (by
  clear wNoI
  obtain ⟨as, bs, h1, h2, h3⟩ := h
  have rd : Reads s.heap (.ref a) (.list ds) (a :: as) := .list g1 g2 g3 (by simpa using h1)
  have dp : (PyData.list ds).depth = PyData.depthAll ds + 1 := by rw [PyData.depth]
  have na : a ∉ bs := not_mem_of_deeper rd (by rw [dp]; omega) h2
  cases its with
  | nil =>
    cases h1
    have e : (PyData.list []).shown = "[]" := by rw [PyData.shown, PyData.shownAll, listText_nil]
    refine ⟨⟨_, a :: bs, rd, h2.cons rd (by rw [dp]; omega), ?_⟩, "list", "list.__repr__", F.slot_list_repr.toG, F.slot_list_str, F.slot_list_format, fun t hk => ⟨o, hk _ _ g1, g2⟩, fun A E t Q hg hu hk hQ => ?_⟩
    · rw [e]; exact .listEmpty g1 g2 g3
    · exact call_list_repr_empty ⟨o, hk _ _ g1, g2⟩ (hk _ _ g1) g3 (by rw [e] at hQ; exact hQ t.heap _ _ fun _ _ z => z)
  | cons x l =>
    have e : (PyData.list ds).shown = listText (PyData.shownAll ds) := by rw [PyData.shown]
    refine ⟨⟨_, a :: bs, rd, h2.cons rd (by rw [dp]; omega), ?_⟩, "list", "list.__repr__", F.slot_list_repr.toG, F.slot_list_str, F.slot_list_format, fun t hk => ⟨o, hk _ _ g1, g2⟩, fun A E t Q hg hu hk hQ => ?_⟩
    · rw [e, dp]; exact .list g1 g2 g3 na (by simpa using h3.length_eq) fun i y q => h3.item i y (by simpa using q)
    · rw [dp] at hu
      rw [e] at hQ hz
      exact call_list_reprK g1 g2 g3 na (by simpa using h3.length_eq) (fun i y q => h3.item i y (by simpa using q)) hg (fun b _ => Clear.nil b) hu hk hQ hz
  )]
  intro _ hNoI
  simpa using (fun (_ : NoI.Sg) => hNoI) [5]
theorem tup_tell {a : Addr} {o : Obj} {its : List Value} {n : Nat} {ds : List D} (g1 : s.heap.get? a = some o) (g2 : o.cls = .type "tuple") (g3 : o.data = .seq its.toArray n) (hz : (PyData.tuple ds).shown.length ≤ sizeLine) (h : Tells X s its ds) :
    Tell X s (.ref a) (.tuple ds) ∧ Told X s a (.tuple ds) := by
  refine NoI.keep (fun _ wNoI => ?_) ?_
  simp only [↓ NoI.wrOf wNoI (by
  clear wNoI
  obtain ⟨as, bs, h1, h2, h3⟩ := h
  have rd : Reads s.heap (.ref a) (.tuple ds) as := .tuple g1 g2 g3 (by simpa using h1)
  have dp : (PyData.tuple ds).depth = PyData.depthAll ds + 1 := by rw [PyData.depth]
  have na : a ∉ bs := not_mem_of_deeper rd (by rw [dp]; omega) h2
  have e : (PyData.tuple ds).shown = tupleText (PyData.shownAll ds) := by rw [PyData.shown]
  refine ⟨⟨_, a :: bs, rd, h2.cons rd (by rw [dp]; omega), ?_⟩, "tuple", "tuple.__repr__", F.slot_tuple_repr, F.slot_tuple_str, F.slot_tuple_format, fun t hk => ⟨o, hk _ _ g1, g2⟩, fun A E t Q hg hu hk hQ => ?_⟩
  · rw [e, dp]; exact .tuple g1 g2 g3 na (by simpa using h3)
  · rw [dp] at hu
    rw [e] at hQ hz
    exact call_tuple_reprK g1 g2 g3 na (by simpa using h3) hg (fun b _ => Clear.nil b) hu hk hQ hz
  )]
  intro _ hNoI
  simpa using (fun (_ : NoI.Sg) => hNoI) [5]
theorem dic_tell {a : Addr} {o : Obj} {es : Array DictEntry} {n : Nat} {kvs : List (D × D)} (g1 : s.heap.get? a = some o) (g2 : o.cls = .type "dict") (g3 : o.data = .dict es n) (hs : (a == sysModules) = false) (hz : (PyData.dict kvs).shown.length ≤ sizeLine)
    (hk : Tells X s (es.toList.map (·.key)) (kvs.map (·.1))) (hv : Tells X s (es.toList.map (·.val)) (kvs.map (·.2))) : Tell X s (.ref a) (.dict kvs) ∧ Told X s a (.dict kvs) := by
  refine NoI.keep (fun _ wNoI => ?_) ?_
  simp only [↓ NoI.wrOf wNoI (by
  clear wNoI
  obtain ⟨as, bs, h1, h2, h3⟩ := hk
  obtain ⟨cs, fs, t1, t2, t3⟩ := hv
  have rd : Reads s.heap (.ref a) (.dict kvs) _ := .dict g1 g2 g3 h1 t1
  have dp : (PyData.dict kvs).depth = PyData.depthKv kvs + 1 := by rw [PyData.depth]
  have dk := PyData.depthAll_keys_le kvs
  have dv := PyData.depthAll_vals_le kvs
  have hb : ReadAtMost s.heap (PyData.depthKv kvs) (bs ++ fs) := (h2.mono dk).append (t2.mono dv)
  have na : a ∉ bs ++ fs := not_mem_of_deeper rd (by rw [dp]; omega) hb
  have e : (PyData.dict kvs).shown = dictText (List.zipWith (fun k v : Str => k ++ ": " ++ v) (PyData.shownAll (kvs.map (·.1))) (PyData.shownAll (kvs.map (·.2)))) := by rw [PyData.shown, PyData.shownKv_eq]
  have en := ReprEntriesK.of_two es.toList _ _ (h3.more_le (fun b hb => List.mem_append_left fs hb) dk) (t3.more_le (fun b hb => List.mem_append_right bs hb) dv)
  refine ⟨⟨_, a :: (bs ++ fs), rd, hb.cons rd (by rw [dp]; omega), ?_⟩, "dict", "dict.__repr__", F.slot_dict_repr, F.slot_dict_str, F.slot_dict_format, fun t hk => ⟨o, hk _ _ g1, g2⟩, fun A E t Q hg hu hk hQ => ?_⟩
  · rw [e, dp]; exact .dict g1 g2 g3 hs na en
  · rw [dp] at hu
    rw [e] at hQ hz
    exact call_dict_reprK g1 g2 g3 hs na en hg (fun b _ => Clear.nil b) hu hk hQ hz
  )]
  intro _ hNoI
  simpa using (fun (_ : NoI.Sg) => hNoI) [5]
/-- keys that are ints and strings -/
theorem dk_keys : ∀ {l : List DictEntry} {vs : List (Key × Value)}, Pairs (mixKind X.prog X.w) l vs → Shs (vs.map fun p => kD p.1) → Tells X s (l.map (·.key)) (vs.map fun p => kD p.1)
  | _, _, .nil, _ => .nil
  | _, _, .cons (e := e) (kv := kv) h1 _ t, z => by
    refine .cons ?_ (dk_keys t z.tail)
    have hd := z.head
    rcases keyIs_shape h1 with ⟨i, tk, e1, e2⟩ | ⟨x, tk, e1, e2⟩
    · have hd : Sh (kD kv.1) := hd
      show Tell X s e.key (kD kv.1)
      rw [e1] at hd ⊢
      rw [e2]
      refine ⟨_, [], .int i tk, fun _ h => (by cases h), ?_⟩
      have := hd.1
      rw [kD, PyData.showable] at this
      rw [kD, PyData.shown]
      exact .of_is (ReprIs.int tk (by simpa using this)) _ _ _
    · have hd : Sh (kD kv.1) := hd
      show Tell X s e.key (kD kv.1)
      rw [e1] at hd ⊢
      rw [e2]
      refine ⟨_, [], .str x tk, fun _ h => (by cases h), ?_⟩
      have := hd.2
      rw [kD, PyData.shown] at this
      rw [kD, PyData.shown]
      exact .of_is (ReprIs.str x tk this) _ _ _
theorem pairs_vals : ∀ {l : List DictEntry} {vs : List (Key × Value)}, Pairs (mixKind X.prog X.w) l vs → l.map (·.val) = vs.map (·.2)
  | _, _, .nil => rfl
  | _, _, .cons _ h t => by rw [List.map_cons, List.map_cons, h, pairs_vals t]
theorem dK_told (I : L2.Inv X pins σ H s) {a : Addr} {kvs : List (Key × V)} {es : List (D × D)} (e : Rd H a (.dK kvs)) (hk : es.map (·.1) = kvs.map fun p => kD p.1) (z : Sh (.dict es)) (ih : ∀ us, Vals (kvs.map (·.2)) us → Tells X s us (es.map (·.2))) :
    Tell X s (.ref a) (.dict es) ∧ Told X s a (.dict es) := by
  refine NoI.keep (fun _ wNoI => ?_) ?_
  simp only [↓ NoI.wrOf wNoI (by
  clear wNoI
  obtain ⟨_, hs, vs, rel, o, l, ep, g1, g2, g3, _, hp, _⟩ := dk_rd I.hok e
  refine dic_tell g1 g2.1 g3 hs z.2 ?_ ?_
  · have h := z.dict.1
    rw [hk] at h ⊢
    have e2 : (kvs.map fun p => kD p.1) = vs.map fun p => kD p.1 := by
      have := congrArg (List.map kD) rel.keys
      rw [List.map_map, List.map_map] at this
      exact this
    rw [e2] at h ⊢
    exact dk_keys hp h
  · rw [pairs_vals hp]
    exact ih _ (kv_val rel)
  )]
  intro _ hNoI
  simpa using (fun (_ : NoI.Sg) => hNoI) [5]
theorem dX_told (I : L2.Inv X pins σ H s) {a : Addr} {xs : List XE} {es : List (D × D)} (e : Rd H a (@DXo ⟨X.w⟩ a xs)) (z : Sh (.dict es)) (hk : ∀ ys, XEs xs ys → Tells X s (ys.map fun y => Value.ref y.2.1) (es.map (·.1))) (ih : ∀ us, Vals (xs.map (·.2.2)) us → Tells X s us (es.map (·.2))) :
    Tell X s (.ref a) (.dict es) ∧ Told X s a (.dict es) := by
  refine NoI.keep (fun _ wNoI => ?_) ?_
  simp only [↓ NoI.wrOf wNoI (by
  clear wNoI
  obtain ⟨_, hs, ys, r, o, l, ep, g1, g2, g3, g4, _⟩ := @dxo_at ⟨X.w⟩ _ _ _ _ _ _ I.hok e
  refine dic_tell g1 g2.1 g3 hs z.2 ?_ ?_
  · rw [g4, List.map_map]
    exact hk ys r
  · rw [g4, List.map_map]
    exact ih _ (xes_val r)
  )]
  intro _ hNoI
  simpa using (fun (_ : NoI.Sg) => hNoI) [5]
mutual
theorem rpD (I : L2.Inv X pins σ H s) : ∀ (d : D) (v : V) (u : Value), @DV ⟨X.w⟩ X.K H v d → RelV v u → Sh d → Tell X s u d ∧ (boxD d = true → ∃ a, u = .ref a ∧ Told X s a d)
  | .none, _, _, h, r, z => by
    cases h; cases r
    exact ⟨⟨_, [], .none, fun _ h => (by cases h), by rw [PyData.shown]; exact .of_is ReprIs.none _ _ _⟩, fun h => by cases h⟩
  | .bool b, _, _, h, r, z => by
    cases h; cases r
    exact ⟨⟨_, [], .bool b, fun _ h => (by cases h), by rw [PyData.shown]; exact .of_is (ReprIs.bool b) _ _ _⟩, fun h => by cases h⟩
  | .int i, _, _, h, r, z => by
    cases h
    obtain ⟨t, rfl⟩ := r
    have hs := z.1
    rw [PyData.showable] at hs
    exact ⟨⟨_, [], .int i t, fun _ h => (by cases h), by rw [PyData.shown]; exact .of_is (ReprIs.int t (by simpa using hs)) _ _ _⟩, fun h => by cases h⟩
  | .str x, _, _, h, r, z => by
    cases h
    obtain ⟨t, rfl⟩ := r
    have hs := z.2
    rw [PyData.shown] at hs
    exact ⟨⟨_, [], .str x t, fun _ h => (by cases h), by rw [PyData.shown]; exact .of_is (ReprIs.str x t hs) _ _ _⟩, fun h => by cases h⟩
  | .list ds, _, _, h, r, z => by
    cases h with
    | lst a1 b1 =>
      cases r
      obtain ⟨its, rv, ⟨o, n, g1, c1, _, d1⟩, _⟩ := I.list (X := X) (SqL.of a1)
      obtain ⟨p, q⟩ := lst_tell (X := X) g1 c1 d1 z.2 (rpDs I ds _ its b1 rv z.list)
      exact ⟨p, fun _ => ⟨_, rfl, q⟩⟩
  | .tuple ds, _, _, h, r, z => by
    cases h with
    | tup a1 b1 =>
      cases r
      obtain ⟨its, rv, ⟨o, g1, c1, n, d1⟩, _⟩ := I.tuple (@TupD.sq ⟨X.w⟩ X.K _ _ _ _ a1)
      obtain ⟨p, q⟩ := tup_tell (X := X) g1 c1 d1 z.2 (rpDs I ds _ its b1 rv z.tuple)
      exact ⟨p, fun _ => ⟨_, rfl, q⟩⟩
  | .dict es, _, _, h, r, z => by
    cases h with
    | dK a1 b1 c1 =>
      cases r
      obtain ⟨p, q⟩ := dK_told I a1 b1 z fun us ru => rpVs I es _ us c1 ru z.dict.2
      exact ⟨p, fun _ => ⟨_, rfl, q⟩⟩
    | dX a1 b1 =>
      cases r
      obtain ⟨p, q⟩ := dX_told I a1 z (fun ys ry => rpKs I es _ ys b1 ry z.dict.1) fun us ru => rpVs I es _ us (@dks_vals ⟨X.w⟩ _ _ _ _ b1) ru z.dict.2
      exact ⟨p, fun _ => ⟨_, rfl, q⟩⟩
theorem rpDs (I : L2.Inv X pins σ H s) : ∀ (ds : List D) (vs : List V) (us : List Value), @DVs ⟨X.w⟩ X.K H vs ds → Vals vs us → Shs ds → Tells X s us ds
  | [], _, _, h, r, _ => by
    cases h; cases r
    exact .nil
  | d :: ds, _, _, h, r, z => by
    cases h with
    | cons h1 h2 =>
      cases r with
      | cons r1 r2 => exact .cons (rpD I d _ _ h1 r1 z.head).1 (rpDs I ds _ _ h2 r2 z.tail)
theorem rpVs (I : L2.Inv X pins σ H s) : ∀ (es : List (D × D)) (vs : List V) (us : List Value), @DVs ⟨X.w⟩ X.K H vs (es.map (·.2)) → Vals vs us → Shs (es.map (·.2)) → Tells X s us (es.map (·.2))
  | [], _, _, h, r, _ => by
    cases h; cases r
    exact .nil
  | (k, d) :: es, _, _, h, r, z => by
    cases h with
    | cons h1 h2 =>
      cases r with
      | cons r1 r2 => exact .cons (rpD I d _ _ h1 r1 z.head).1 (rpVs I es _ _ h2 r2 z.tail)
theorem rpKs (I : L2.Inv X pins σ H s) : ∀ (es : List (D × D)) (xs : List XE) (ys : List (NestedKey × Addr × Value)), @DKs ⟨X.w⟩ X.K H xs es → XEs xs ys → Shs (es.map (·.1)) → Tells X s (ys.map fun y => Value.ref y.2.1) (es.map (·.1))
  | [], _, _, h, r, _ => by
    cases h; cases r
    exact .nil
  | (k, d) :: es, _, _, h, r, z => by
    cases h with
    | cons h1 h2 h3 =>
      cases r with
      | cons r1 r2 =>
        refine .cons (rpD I _ _ _ h1 ?_ z.head).1 (rpKs I es _ _ h3 r2 z.tail)
        exact congrArg Value.ref r1.2.1.symm
end
/-- repr(x), x a list, a tuple or a dict -/
def rReprV [WW] (K : PySem.W.Frag) : List V → Hp → VK → Prop := fun xs H Q => ∃ v d, xs = [v] ∧ DV K H v d ∧ Sh d ∧ d.depth ≤ 40 ∧ Q (.str d.shown) H
theorem call_reprV {X : Cx} {k : Nat} (hg : X.A.guards = some []) (hr : Room k X.A) : CallR X (.builtin "repr") (@rReprV ⟨X.w⟩ X.K) := by
  refine NoI.keep (fun _ wNoI => ?_) ?_
  simp only [↓ NoI.wrOf wNoI (by
  clear wNoI
  intro pins s σ H xs us Q I r h
  obtain ⟨v, d, rfl, hd, z, hz, q⟩ := h
  obtain ⟨u, rfl, rx⟩ := vals1 r
  have := hr.units
  cases hb : boxD d with
  | true =>
    obtain ⟨a, rfl, T, idr, S⟩ := (rpD I d v u hd rx z).2 hb
    exact call_repr_slot (by omega) (S.typeIs s fun _ _ e => e) S.slotRepr (S.call X.A.in1 _ s _ hg (by show X.A.units + 1 + d.depth < cLine; omega) (fun _ _ e => e) fun h' u tk hk => ⟨_, _, rfl, ⟨.str _, H, I.kept hk, ⟨_, rfl⟩, q⟩⟩)
  | false =>
    cases d with
    | none =>
      cases hd; cases rx
      exact PySem.P.repr_of_none ⟨.str _, H, I.tok _, ⟨_, rfl⟩, by rw [PyData.shown] at q; exact q⟩
    | bool b =>
      cases hd; cases rx
      exact PySem.P.repr_of_bool ⟨.str _, H, I.tok _, ⟨_, rfl⟩, by rw [PyData.shown] at q; exact q⟩
    | int i =>
      cases hd
      obtain ⟨t, rfl⟩ := rx
      have h1 := z.1
      rw [PyData.showable] at h1
      exact PySem.P.repr_of_int (by simpa using h1) ⟨.str _, H, I.tok _, ⟨_, rfl⟩, by rw [PyData.shown] at q; exact q⟩
    | str x =>
      cases hd
      obtain ⟨t, rfl⟩ := rx
      have h2 := z.2
      rw [PyData.shown] at h2
      exact PySem.P.repr_of_str ⟨.str _, H, I.tok _, ⟨_, rfl⟩, by rw [PyData.shown] at q; exact q⟩ h2
    | list _ => cases hb
    | tuple _ => cases hb
    | dict _ => cases hb
  )]
  intro _ hNoI
  simpa using (fun (_ : NoI.Sg) => hNoI) [5]
end
end SH

namespace SH
open PySem PySem.Spec PyProof.Rows L2
variable [WW]

/-! ### tuples of which all is known -/
theorem okTup {X : Cx} {H : Hp} {h : Heap} {p : Addr} {xs : List V} {its : List Value} (e : h.get? p = some { cls := .type "tuple", data := .seq its.toArray }) (r : Vals xs its) (z : xs.length ≤ sizeLine) :
    ObjOk X.prog X.w H h p (.frz { cls := .type "tuple", data := .seq its.toArray } (.tup xs)) :=
  ⟨e, z, its, r, ⟨_, e, rfl, _, rfl⟩⟩
section
variable {X : Cx} {pins : List (Addr × Obj)} {σ : L2.St} {H : Hp} {s : Shared} {Q : VK} {xs : List V} {its : List Value}
theorem newTup (I : Inv X pins σ H s) (r : Vals xs its) (z : xs.length ≤ sizeLine) (q : mkT H xs Q) :
    EP X pins σ Q (.ref s.heap.objs.size) { s with heap := s.heap.push { cls := .type "tuple", data := .seq its.toArray } } := by
  refine NoI.keep (fun _ wNoI => ?_) ?_
  simp only [↓ NoI.wrOf wNoI (by
  clear wNoI
  have hf : H s.heap.objs.size = none := I.hok.fresh (Nat.le_refl _)
  have kp : ∀ b u, s.heap.get? b = some u → (s.heap.push { cls := .type "tuple", data := .seq its.toArray }).get? b = some u := fun b u e => Heap.get?_push_of_some _ e
  rcases q with q | q
  · have lay := I.laid (t' := s.toks) (o := .tup xs) kp (Nat.le_refl _) ⟨z, its, r, _, Heap.get?_push_size _ rfl, rfl, _, rfl⟩
    exact ⟨V.ref s.heap.objs.size, _, lay, rfl, q _ hf⟩
  · have lay := I.laid (t' := s.toks) (o := .frz { cls := .type "tuple", data := .seq its.toArray } (.tup xs)) kp (Nat.le_refl _)
      (okTup (Heap.get?_push_size _ rfl) r z)
    exact ⟨V.ref s.heap.objs.size, _, lay, rfl, q _ _ rfl hf⟩
  )]
  intro _ hNoI
  simpa using (fun (_ : NoI.Sg) => hNoI) [5]
end
section
variable {X : Cx}
theorem pe_tupF {es : List Expr} {t : TA} {x1} {pos : Pos} (h : PA X es t) : PE X (.Tuple es x1 pos) (tTupF t) := by
  refine NoI.keep (fun _ wNoI => ?_) ?_
  simp only [↓ NoI.wrOf wNoI (by
  clear wNoI
  refine ⟨fun pins s σ H Q I hq => wpAny_Tuple_spliced (thn (h.run pos pins s σ H _ I hq) ?_)⟩
  rintro us s1 ⟨xs, H1, J, r, z, q⟩
  have e : us.toArray = us.toArray := rfl
  exact ⟨r.length ▸ z, newTup J r z q⟩
  )]
  intro _ hNoI
  simpa using (fun (_ : NoI.Sg) => hNoI) [5]
def rCatF (K : PySem.W.Frag) : R2 := fun x y H Q => ∃ a b xs ys, x = .ref a ∧ y = .ref b ∧ SqT K H a xs ∧ SqT K H b ys ∧ xs.length + ys.length ≤ sizeLine ∧
  (xs = [] → Q (.ref b) H) ∧ (xs ≠ [] → ys = [] → Q (.ref a) H) ∧ (xs ≠ [] → ys ≠ [] → mkT H (xs ++ ys) Q)
theorem op_catF : OpR X (binaryOp .Add) (rCatF X.K) := by
  refine NoI.keep (fun _ wNoI => ?_) ?_
  simp only [↓ NoI.wrOf wNoI (by
  clear wNoI
  rintro pins s σ H x y v u Q I rx ry ⟨a, b, xs, ys, rfl, rfl, ha, hb, hz, q0, q1, q2⟩
  cases rx
  cases ry
  obtain ⟨its, r1, p1, _⟩ := I.tuple ha
  obtain ⟨its2, r2, p2, _⟩ := I.tuple hb
  by_cases hx : xs = []
  · subst hx
    cases r1
    exact cat_tup0 p1 p2 ⟨.ref b, H, I, rfl, q0 rfl⟩
  · refine HT.cat_tup p1 p2 (fun z => hx (r1.nil_iff.mp z)) (fun z => ⟨.ref a, H, I, rfl, q1 hx (r2.nil_iff.mp z)⟩) (fun z => ?_) ?_
    · refine newTup I (r1.append r2) (by rw [List.length_append]; exact hz) (q2 hx fun w => z (r2.nil_iff.mpr w))
    · rw [← r1.length, ← r2.length]; exact hz
  )]
  intro _ hNoI
  simpa using (fun (_ : NoI.Sg) => hNoI) [5]
def rSlF (K : PySem.W.Frag) : V → Option Int → Option Int → Hp → VK → Prop := fun x lo hi H Q => ∃ a xs, x = .ref a ∧ SqT K H a xs ∧
  (HT.sIx xs.length 0 lo = 0 ∧ HT.sIx xs.length xs.length hi = xs.length → Q (.ref a) H) ∧
  (¬ (HT.sIx xs.length 0 lo = 0 ∧ HT.sIx xs.length xs.length hi = xs.length) → mkT H (cutV xs lo hi) Q)
theorem sl_tupF : SlR X (rSlF X.K) := by
  refine NoI.keep (fun _ wNoI => ?_) ?_
  simp only [↓ NoI.wrOf wNoI (by
  clear wNoI
  rintro pins s σ H x v vl vu lo hi sl Q I rx hs pl pu ⟨a, xs, rfl, hx, q1, q2⟩
  cases rx
  obtain ⟨its, r, ht, hz⟩ := I.tuple hx
  have len : its.toArray.size = xs.length := by rw [List.size_toArray]; exact r.length.symm
  refine ⟨"tuple", _, PyProof.Rows.slot_tuple_getitem.lookup, ht.typeIs, ?_⟩
  by_cases hw : HT.sIx xs.length 0 lo = 0 ∧ HT.sIx xs.length xs.length hi = xs.length
  · exact getItem_tuple_whole ht hs pl pu (by rw [len]; exact hw) ⟨.ref a, H, I, rfl, q1 hw⟩
  · refine HT.getItem_tuple_cut ht hs pl pu (by rw [len]; exact hw) ?_ (by rw [len]; exact hz)
    rw [len]
    exact newTup (xs := cutV xs lo hi) I ((r.drop _).take _) (Nat.le_trans (cutV_length xs lo hi) hz) (q2 hw)
  )]
  intro _ hNoI
  simpa using (fun (_ : NoI.Sg) => hNoI) [5]
def rTupU (K : PySem.W.Frag) : List V → Hp → VK → Prop := fun xs H Q => ∃ p ys, xs = [.ref p] ∧ ((SqL K H p ys ∧ mkT H ys Q) ∨ (SqT K H p ys ∧ Q (.ref p) H))
theorem call_tupF : CallR X (.type "tuple") (rTupU X.K) := by
  refine NoI.keep (fun _ wNoI => ?_) ?_
  simp only [↓ NoI.wrOf wNoI (by
  clear wNoI
  rintro pins s σ H xs us Q I r ⟨p, ys, rfl, h⟩
  obtain ⟨u, rfl, rx⟩ := vals1 r
  cases rx
  rcases h with ⟨hq, q⟩ | ⟨hq, q⟩
  · obtain ⟨its, r', pl, hz⟩ := I.list hq
    have len := r'.length
    refine call_tuple_list pl.isList (fun h' kp => ?_) (by simp only [List.size_toArray]; omega)
    exact newTup (I.kept (h' := h') (t' := s.toks) kp) r' hz q
  · obtain ⟨its, r', pl, hz⟩ := I.tuple hq
    exact call_tuple_same pl ⟨.ref p, H, I, rfl, q⟩
  )]
  intro _ hNoI
  simpa using (fun (_ : NoI.Sg) => hNoI) [5]
end
/-! ### operators for values of more than one kind -/
theorem opr_or {X : Cx} {f : Value → Value → Sem Value} {r r' : R2} (h : OpR X f r) (h' : OpR X f r') : OpR X f (fun x y H Q => r x y H Q ∨ r' x y H Q) := by
  intro pins s σ H x y v u Q I rx ry q
  rcases q with q | q
  · exact h pins s σ H x y v u Q I rx ry q
  · exact h' pins s σ H x y v u Q I rx ry q
theorem slr_or {X : Cx} {r r' : V → Option Int → Option Int → Hp → VK → Prop} (h : SlR X r) (h' : SlR X r') : SlR X (fun x l u H Q => r x l u H Q ∨ r' x l u H Q) := by
  refine NoI.keep (fun _ wNoI => ?_) ?_
  simp only [↓ NoI.wrOf wNoI (by
  clear wNoI
  intro pins s σ H x v vl vu lo hi sl Q I rx hs pl pu q
  rcases q with q | q
  · exact h pins s σ H x v vl vu lo hi sl Q I rx hs pl pu q
  · exact h' pins s σ H x v vl vu lo hi sl Q I rx hs pl pu q
  )]
  intro _ hNoI
  simpa using (fun (_ : NoI.Sg) => hNoI) [5]
def rStr2 : R2 := fun x y H Q => ∃ i j, x = .str i ∧ y = .str j ∧ i.length + j.length ≤ sizeLine ∧ Q (.str (i ++ j)) H
def rMulS : R2 := fun x y H Q => ∃ z n, x = .str z ∧ y = .int n ∧ MulOk z n ∧ Q (.str (Txt.mul z n)) H
theorem op_mulS {X : Cx} : OpR X (binaryOp .Mult) rMulS := by
  refine NoI.keep (fun _ wNoI => ?_) ?_
  simp only [↓ NoI.wrOf wNoI (by
  clear wNoI
  intro pins s σ H x y v u Q I rx ry h
  obtain ⟨z, n, rfl, rfl, ok, q⟩ := h
  obtain ⟨t, rfl⟩ := rx
  obtain ⟨t', rfl⟩ := ry
  exact SB.mul ok fun t' k => ⟨.str _, H, I.tok _, ⟨_, rfl⟩, q⟩
  )]
  intro _ hNoI
  simpa using (fun (_ : NoI.Sg) => hNoI) [5]
def rAddU (K : PySem.W.Frag) : R2 := fun x y H Q => (((rI0 fun i j => .int (i + j)) x y H Q ∨ rStr2 x y H Q) ∨ rCat x y H Q) ∨ rCatF K x y H Q
theorem op_addU {X : Cx} : OpR X (binaryOp .Add) (rAddU X.K) := opr_or (opr_or (opr_or op_add op_add_str) op_cat) op_catF
def rMulU : R2 := fun x y H Q => ((rI CMulW fun i j => .int (i * j)) x y H Q ∨ rMulS x y H Q) ∨ rRep x y H Q
theorem op_mulU {X : Cx} : OpR X (binaryOp .Mult) rMulU := opr_or (opr_or op_mulW op_mulS) op_rep
def rEqU (K : PySem.W.Frag) : R2 := fun x y H Q => rEq x y H Q ∨ rEqD K x y H Q ∨ rEqV K x y H Q
theorem op_eqU {X : Cx} (hu : X.A.units + 64 < cLine) : OpR X (compareOp .Eq) (@rEqU ⟨X.w⟩ X.K) := opr_or op_eq (opr_or (op_eqD hu) (op_eqV hu))
def rNeU (K : PySem.W.Frag) : R2 := fun x y H Q => rNe x y H Q ∨ rNeD K x y H Q
theorem op_neU {X : Cx} (hu : X.A.units + 64 < cLine) : OpR X (compareOp .NotEq) (rNeU X.K) := opr_or op_ne (op_neD hu)
def rSlU (K : PySem.W.Frag) : V → Option Int → Option Int → Hp → VK → Prop := fun x l u H Q => (rSlL K x l u H Q ∨ rSlF K x l u H Q) ∨ rSlS x l u H Q
theorem sl_U {X : Cx} : SlR X (rSlU X.K) := slr_or (slr_or sl_list sl_tupF) sl_str

section
variable {K : PySem.W.Frag} {Zc : Addr → Prop} {s : S} {x y : SV} {Φ : SV → S → Prop}
theorem os_I {C : Int → Int → Prop} {g : Int → Int → V} {i j : Int} {d : D} (h1 : rd s.mem x = some (.int i)) (h2 : rd s.mem y = some (.int j)) (hc : C i j) (hg : ∀ H, DV K H (g i j) d) (k : Φ (.dat d) s) : OpS K Zc (rI C g) x y s Φ := by
  intro ad H σ v u Q I r1 r2 p
  exact ⟨i, j, rd_int I.mr r1 h1, rd_int I.mr r2 h2, hc, p.val I k (sv := .dat d) (hg _)⟩
theorem os_I0 {g : Int → Int → V} {i j : Int} {d : D} (h1 : rd s.mem x = some (.int i)) (h2 : rd s.mem y = some (.int j)) (hg : ∀ H, DV K H (g i j) d) (k : Φ (.dat d) s) : OpS K Zc (rI0 g) x y s Φ := by
  intro ad H σ v u Q I r1 r2 p
  exact ⟨i, j, rd_int I.mr r1 h1, rd_int I.mr r2 h2, p.val I k (sv := .dat d) (hg _)⟩
theorem os_addI {i j : Int} (h1 : rd s.mem x = some (.int i)) (h2 : rd s.mem y = some (.int j)) (k : Φ (.dat (.int (i + j))) s) : OpS K Zc (rAddU K) x y s Φ :=
  fun ad H σ v u Q I r1 r2 p => .inl (.inl (.inl (os_I0 h1 h2 (fun _ => .int _) k ad H σ v u Q I r1 r2 p)))
theorem os_addS {i j : Str} (h1 : rd s.mem x = some (.str i)) (h2 : rd s.mem y = some (.str j)) (hz : i.length + j.length ≤ sizeLine) (k : Φ (.dat (.str (i ++ j))) s) : OpS K Zc (rAddU K) x y s Φ :=
  fun ad H σ v u Q I r1 r2 p => .inl (.inl (.inr ⟨i, j, rd_str I.mr r1 h1, rd_str I.mr r2 h2, hz, p.val I k (sv := .dat _) (.str _)⟩))
theorem os_addL {xs ys : List D} (h1 : rd s.mem x = some (.list xs)) (h2 : rd s.mem y = some (.list ys)) (hz : xs.length + ys.length ≤ sizeLine) (k : Φ (.own s.mem.length) ⟨s.sl, s.mem ++ [some (.list (xs ++ ys))]⟩) : OpS K Zc (rAddU K) x y s Φ := by
  refine NoI.keep (fun _ wNoI => ?_) ?_
  simp only [↓ NoI.wrOf wNoI (by
  clear wNoI
  intro ad H σ v u Q I r1 r2 p
  obtain ⟨a, vs, rfl, e1, d1⟩ := rd_lst I.mr r1 h1
  obtain ⟨b, us, rfl, e2, d2⟩ := rd_lst I.mr r2 h2
  exact .inl (.inr ⟨a, b, vs, us, rfl, rfl, e1, e2, by rw [dpAll_len d1, dpAll_len d2]; exact hz, fun q hq => p.lst I k hq (dpAll_append d1 d2)⟩)
  )]
  intro _ hNoI
  simpa using (fun (_ : NoI.Sg) => hNoI) [5]
theorem os_addT {xs ys : List D} (h1 : rd s.mem x = some (.tuple xs)) (h2 : rd s.mem y = some (.tuple ys)) (hz : xs.length + ys.length ≤ sizeLine) (k : Φ (.dat (.tuple (xs ++ ys))) s) : OpS K Zc (rAddU K) x y s Φ := by
  refine NoI.keep (fun _ wNoI => ?_) ?_
  simp only [↓ NoI.wrOf wNoI (by
  clear wNoI
  intro ad H σ v u Q I r1 r2 p
  obtain ⟨a, vs, rfl, e1, d1⟩ := rd_tup I.mr r1 h1
  obtain ⟨b, us, rfl, e2, d2⟩ := rd_tup I.mr r2 h2
  refine .inr ⟨a, b, vs, us, rfl, rfl, e1, e2, by rw [dpAll_len d1, dpAll_len d2]; exact hz, fun z => ?_, fun _ z => ?_, fun _ _ => p.tup I k (dpAll_append d1 d2)⟩
  · subst z
    cases d1
    obtain rfl := rd_tupD I.mr r2 h2
    exact p.val I k r2
  · subst z
    cases d2
    rw [List.append_nil] at k
    obtain rfl := rd_tupD I.mr r1 h1
    exact p.val I k r1
  )]
  intro _ hNoI
  simpa using (fun (_ : NoI.Sg) => hNoI) [5]
theorem os_mulI {i j : Int} (h1 : rd s.mem x = some (.int i)) (h2 : rd s.mem y = some (.int j)) (hc : CMulW i j) (k : Φ (.dat (.int (i * j))) s) : OpS K Zc rMulU x y s Φ :=
  fun ad H σ v u Q I r1 r2 p => .inl (.inl (os_I h1 h2 hc (fun _ => .int _) k ad H σ v u Q I r1 r2 p))
theorem os_mulS {z : Str} {n : Int} (h1 : rd s.mem x = some (.str z)) (h2 : rd s.mem y = some (.int n)) (hc : MulOk z n) (k : Φ (.dat (.str (Txt.mul z n))) s) : OpS K Zc rMulU x y s Φ :=
  fun ad H σ v u Q I r1 r2 p => .inl (.inr ⟨z, n, rd_str I.mr r1 h1, rd_int I.mr r2 h2, hc, p.val I k (sv := .dat _) (.str _)⟩)
theorem os_eqI {i j : Int} (h1 : rd s.mem x = some (.int i)) (h2 : rd s.mem y = some (.int j)) (k : Φ (.dat (.bool (i == j))) s) : OpS K Zc (rEqU K) x y s Φ := by
  refine NoI.keep (fun _ wNoI => ?_) ?_
  simp only [↓ NoI.wrOf wNoI (by
  clear wNoI
  intro ad H σ v u Q I r1 r2 p
  rw [rd_int I.mr r1 h1, rd_int I.mr r2 h2]
  refine .inl ⟨rfl, ?_⟩
  rw [show decide (V.int i = V.int j) = (i == j) by by_cases e : i = j <;> simp [e]]
  exact p.val I k (sv := .dat _) (.bl _)
  )]
  intro _ hNoI
  simpa using (fun (_ : NoI.Sg) => hNoI) [5]
theorem os_eqS {i j : Str} (h1 : rd s.mem x = some (.str i)) (h2 : rd s.mem y = some (.str j)) (k : Φ (.dat (.bool (decide (i = j)))) s) : OpS K Zc (rEqU K) x y s Φ := by
  refine NoI.keep (fun _ wNoI => ?_) ?_
  simp only [↓ NoI.wrOf wNoI (by
  clear wNoI
  intro ad H σ v u Q I r1 r2 p
  rw [rd_str I.mr r1 h1, rd_str I.mr r2 h2]
  refine .inl ⟨rfl, ?_⟩
  rw [show decide (V.str i = V.str j) = decide (i = j) by by_cases e : i = j <;> simp [e]]
  exact p.val I k (sv := .dat _) (.bl _)
  )]
  intro _ hNoI
  simpa using (fun (_ : NoI.Sg) => hNoI) [5]
theorem os_neI {i j : Int} (h1 : rd s.mem x = some (.int i)) (h2 : rd s.mem y = some (.int j)) (k : Φ (.dat (.bool (!(i == j)))) s) : OpS K Zc (rNeU K) x y s Φ := by
  refine NoI.keep (fun _ wNoI => ?_) ?_
  simp only [↓ NoI.wrOf wNoI (by
  clear wNoI
  intro ad H σ v u Q I r1 r2 p
  rw [rd_int I.mr r1 h1, rd_int I.mr r2 h2]
  refine .inl ⟨rfl, ?_⟩
  rw [show decide (V.int i = V.int j) = (i == j) by by_cases e : i = j <;> simp [e]]
  exact p.val I k (sv := .dat _) (.bl _)
  )]
  intro _ hNoI
  simpa using (fun (_ : NoI.Sg) => hNoI) [5]
theorem os_neS {i j : Str} (h1 : rd s.mem x = some (.str i)) (h2 : rd s.mem y = some (.str j)) (k : Φ (.dat (.bool (!decide (i = j)))) s) : OpS K Zc (rNeU K) x y s Φ := by
  refine NoI.keep (fun _ wNoI => ?_) ?_
  simp only [↓ NoI.wrOf wNoI (by
  clear wNoI
  intro ad H σ v u Q I r1 r2 p
  rw [rd_str I.mr r1 h1, rd_str I.mr r2 h2]
  refine .inl ⟨rfl, ?_⟩
  rw [show decide (V.str i = V.str j) = decide (i = j) by by_cases e : i = j <;> simp [e]]
  exact p.val I k (sv := .dat _) (.bl _)
  )]
  intro _ hNoI
  simpa using (fun (_ : NoI.Sg) => hNoI) [5]
theorem os_eq {d e : D} (h1 : rd s.mem x = some d) (h2 : rd s.mem y = some e) (s1 : SeqAt.shaped d = true) (s2 : SeqAt.shaped e = true) (k : Φ (.dat (.bool (PyData.eqv d e))) s) : OpS K Zc (rEqU K) x y s Φ := by
  refine NoI.keep (fun _ wNoI => ?_) ?_
  simp only [↓ NoI.wrOf wNoI (by
  clear wNoI
  intro ad H σ v u Q I r1 r2 p
  refine .inr (.inl ?_)
  exact ⟨d, e, dp_of _ _ (rd_D I.mr r1 h1) (PyData.hasDict_of_canLay _ (SeqAt.canLay_of_shaped s1)), dp_of _ _ (rd_D I.mr r2 h2) (PyData.hasDict_of_canLay _ (SeqAt.canLay_of_shaped s2)), s1, s2, p.val I k (sv := .dat _) (.bl _)⟩
  )]
  intro _ hNoI
  simpa using (fun (_ : NoI.Sg) => hNoI) [5]
theorem os_eqV {d : D} (h1 : rd s.mem x = some d) (h2 : rd s.mem y = some d) (hz : d.depth ≤ 40) (k : Φ (.dat (.bool true)) s) : OpS K Zc (rEqU K) x y s Φ := by
  intro ad H σ v u Q I r1 r2 p
  exact .inr (.inr ⟨d, rd_D I.mr r1 h1, rd_D I.mr r2 h2, hz, p.val I k (sv := .dat _) (.bl _)⟩)
theorem os_ne {d e : D} (h1 : rd s.mem x = some d) (h2 : rd s.mem y = some e) (s1 : SeqAt.shaped d = true) (s2 : SeqAt.shaped e = true) (k : Φ (.dat (.bool (!PyData.eqv d e))) s) : OpS K Zc (rNeU K) x y s Φ := by
  refine NoI.keep (fun _ wNoI => ?_) ?_
  simp only [↓ NoI.wrOf wNoI (by
  clear wNoI
  intro ad H σ v u Q I r1 r2 p
  refine .inr ?_
  exact ⟨d, e, dp_of _ _ (rd_D I.mr r1 h1) (PyData.hasDict_of_canLay _ (SeqAt.canLay_of_shaped s1)), dp_of _ _ (rd_D I.mr r2 h2) (PyData.hasDict_of_canLay _ (SeqAt.canLay_of_shaped s2)), s1, s2, p.val I k (sv := .dat _) (.bl _)⟩
  )]
  intro _ hNoI
  simpa using (fun (_ : NoI.Sg) => hNoI) [5]
/-! items -/
theorem atI_dvs {H : Hp} {vs : List V} {ds : List D} {i : Int} {d : D} (h : DVs K H vs ds) (e : atI ds i = some d) : ∃ v, atI vs i = some v ∧ DV K H v d := by
  unfold atI at e ⊢
  rw [dpAll_len h]
  cases q : ixN ds.length i with
  | none => rw [q] at e; cases e
  | some j =>
    rw [q] at e
    exact dpAll_get h e
theorem os_ixL {ds : List D} {i : Int} {d : D} (h1 : rd s.mem x = some (.list ds)) (h2 : rd s.mem y = some (.int i)) (e : atI ds i = some d) (k : Φ (.dat d) s) : OpS K Zc (rIx K) x y s Φ := by
  refine NoI.keep (fun _ wNoI => ?_) ?_
  simp only [↓ NoI.wrOf wNoI (by
  clear wNoI
  intro ad H σ v u Q I r1 r2 p
  obtain ⟨a, vs, rfl, e1, d1⟩ := rd_lst I.mr r1 h1
  obtain ⟨w, q1, q2⟩ := atI_dvs d1 e
  exact .inl ⟨a, vs, i, w, rfl, rd_int I.mr r2 h2, SqL.of e1, q1, p.val I k (sv := .dat d) q2⟩
  )]
  intro _ hNoI
  simpa using (fun (_ : NoI.Sg) => hNoI) [5]
theorem os_ixT {ds : List D} {i : Int} {d : D} (h1 : rd s.mem x = some (.tuple ds)) (h2 : rd s.mem y = some (.int i)) (e : atI ds i = some d) (k : Φ (.dat d) s) : OpS K Zc (rIx K) x y s Φ := by
  refine NoI.keep (fun _ wNoI => ?_) ?_
  simp only [↓ NoI.wrOf wNoI (by
  clear wNoI
  intro ad H σ v u Q I r1 r2 p
  obtain ⟨a, vs, rfl, e1, d1⟩ := rd_tup I.mr r1 h1
  obtain ⟨w, q1, q2⟩ := atI_dvs d1 e
  exact .inr (.inl ⟨a, vs, i, w, rfl, rd_int I.mr r2 h2, e1, q1, p.val I k (sv := .dat d) q2⟩)
  )]
  intro _ hNoI
  simpa using (fun (_ : NoI.Sg) => hNoI) [5]
theorem os_ixS {z : Str} {i : Int} {c : Nat} (h1 : rd s.mem x = some (.str z)) (h2 : rd s.mem y = some (.int i)) (hz : z.length ≤ sizeLine) (e : atI z.cps.toList i = some c) (k : Φ (.dat (.str ⟨#[c]⟩)) s) : OpS K Zc (rIx K) x y s Φ := by
  intro ad H σ v u Q I r1 r2 p
  exact .inr (.inr ⟨z, i, c, rd_str I.mr r1 h1, rd_int I.mr r2 h2, hz, e, p.val I k (sv := .dat _) (.str _)⟩)
/-! slices -/
def PtS (K : PySem.W.Frag) (Zc : Addr → Prop) (t : TO) (s : S) (Φ : Option Int → S → Prop) : Prop :=
  ∀ ad H σ (Q : Option Int → Hp → Prop), SR K Zc ad H σ s → (∀ o ad' H' s', Φ o s' → SR K Zc ad' H' σ s' → Frm Zc s.mem.length ad s.mem H ad' s'.mem H' → Q o H') → t σ H Q
theorem pt_none {Ψ : Option Int → S → Prop} (k : Ψ none s) : PtS K Zc tNoPart s Ψ := fun ad H σ Q I p => p none ad H s k I (.refl (Nat.le_refl _))
theorem pt_part {te : TE} {Ψ : Option Int → S → Prop} (h : EvS K Zc te s fun sv s' => ∃ i, sv = .dat (.int i) ∧ Ψ (some i) s') : PtS K Zc (tPart te) s Ψ := by
  intro ad H σ Q I p
  refine h ad H σ _ I fun v ad1 H1 sv s1 h1 I1 F1 r1 => ?_
  obtain ⟨i, rfl, k⟩ := h1
  cases r1
  exact ⟨i, rfl, p _ ad1 H1 s1 k I1 F1⟩
def SlS (K : PySem.W.Frag) (Zc : Addr → Prop) (r : V → Option Int → Option Int → Hp → VK → Prop) (x : SV) (lo hi : Option Int) (s : S) (Φ : SV → S → Prop) : Prop :=
  ∀ ad H σ v Q, SR K Zc ad H σ s → VR K Zc ad s.mem H v x → Post K Zc ad H σ s Φ Q → r v lo hi H Q
theorem ev_sl {r : V → Option Int → Option Int → Hp → VK → Prop} {te : TE} {tl th : TO} (h : EvS K Zc te s fun x s1 => PtS K Zc tl s1 fun l s2 => PtS K Zc th s2 fun u s3 => SlS K Zc r x l u s3 Φ) : EvS K Zc (tSl r te tl th) s Φ := by
  refine NoI.keep (fun _ wNoI => ?_) ?_
  simp only [↓ NoI.wrOf wNoI (by
  clear wNoI
  intro ad H σ Q I p
  refine h ad H σ _ I fun v ad1 H1 sv s1 h1 I1 F1 r1 => h1 ad1 H1 σ _ I1 fun l ad2 H2 s2 h2 I2 F2 => h2 ad2 H2 σ _ I2 fun u ad3 H3 s3 h3 I3 F3 => ?_
  exact h3 ad3 H3 σ v Q I3 ((r1.frm F2).frm F3) (((p.step F1).step F2).step F3)
  )]
  intro _ hNoI
  simpa using (fun (_ : NoI.Sg) => hNoI) [5]
def cutD (xs : List D) (lo hi : Option Int) : List D := (xs.drop (HT.sIx xs.length 0 lo)).take (HT.sIx xs.length xs.length hi - HT.sIx xs.length 0 lo)
theorem cut_dvs {H : Hp} {vs : List V} {ds : List D} {lo hi : Option Int} (h : DVs K H vs ds) : DVs K H (cutV vs lo hi) (cutD ds lo hi) := by
  unfold cutV cutD
  rw [dpAll_len h]
  exact dpAll_take _ (dpAll_drop _ h)
theorem sl_L {ds : List D} {lo hi : Option Int} (h1 : rd s.mem x = some (.list ds)) (k : Φ (.own s.mem.length) ⟨s.sl, s.mem ++ [some (.list (cutD ds lo hi))]⟩) : SlS K Zc (rSlU K) x lo hi s Φ := by
  intro ad H σ v Q I r1 p
  obtain ⟨a, vs, rfl, e1, d1⟩ := rd_lst I.mr r1 h1
  exact .inl (.inl ⟨a, vs, rfl, SqL.of e1, fun q hq => p.lst I k hq (cut_dvs d1)⟩)
theorem sl_ro {ns : List Int} {lo hi : Option Int} (h1 : x = .ro ns) (k : Φ (.own s.mem.length) ⟨s.sl, s.mem ++ [some (.list (cutD (ns.map PyData.int) lo hi))]⟩) : SlS K Zc (rSlU K) x lo hi s Φ := by
  refine NoI.keep (fun _ wNoI => ?_) ?_
  simp only [↓ NoI.wrOf wNoI (by
  clear wNoI
  intro ad H σ v Q I r1 p
  subst h1
  obtain ⟨a, rfl, e1⟩ := r1
  refine .inl (.inl ⟨a, _, rfl, Same.seq Fz_le e1, fun q hq => p.lst I k hq (cut_dvs ?_)⟩)
  clear k e1
  induction ns with
  | nil => exact .nil
  | cons n ns ih => exact .cons (.int n) ih
  )]
  intro _ hNoI
  simpa using (fun (_ : NoI.Sg) => hNoI) [5]
theorem cutD_whole {ds : List D} {lo hi : Option Int} (h : HT.sIx ds.length 0 lo = 0 ∧ HT.sIx ds.length ds.length hi = ds.length) : cutD ds lo hi = ds := by
  unfold cutD
  rw [h.1, h.2, List.drop_zero, Nat.sub_zero, List.take_length]
theorem sl_T {ds : List D} {lo hi : Option Int} (h1 : rd s.mem x = some (.tuple ds)) (k : Φ (.dat (.tuple (cutD ds lo hi))) s) : SlS K Zc (rSlU K) x lo hi s Φ := by
  refine NoI.keep (fun _ wNoI => ?_) ?_
  simp only [↓ NoI.wrOf wNoI (by
  clear wNoI
  intro ad H σ v Q I r1 p
  obtain ⟨a, vs, rfl, e1, d1⟩ := rd_tup I.mr r1 h1
  refine .inl (.inr ⟨a, vs, rfl, e1, fun w => ?_, fun _ => p.tup I k (cut_dvs d1)⟩)
  rw [dpAll_len d1] at w
  rw [cutD_whole w] at k
  obtain rfl := rd_tupD I.mr r1 h1
  exact p.val I k r1
  )]
  intro _ hNoI
  simpa using (fun (_ : NoI.Sg) => hNoI) [5]
theorem sl_S {z : Str} {lo hi : Option Int} (h1 : rd s.mem x = some (.str z)) (hz : z.length ≤ sizeLine) (k : Φ (.dat (.str (cutS z lo hi))) s) : SlS K Zc (rSlU K) x lo hi s Φ := by
  intro ad H σ v Q I r1 p
  exact .inr ⟨z, rd_str I.mr r1 h1, hz, p.val I k (sv := .dat _) (.str _)⟩

/-! ### calls of built-ins -/
def CbS (K : PySem.W.Frag) (Zc : Addr → Prop) (r : List V → Hp → VK → Prop) (xs : List SV) (s : S) (Φ : SV → S → Prop) : Prop :=
  ∀ ad H σ vs Q, SR K Zc ad H σ s → VRs K Zc ad s.mem H vs xs → Post K Zc ad H σ s Φ Q → r vs H Q
theorem ev_cb {r : List V → Hp → VK → Prop} {ta : TA} (h : ArS K Zc ta s fun xs s1 => CbS K Zc r xs s1 Φ) : EvS K Zc (tCB r ta) s Φ := by
  intro ad H σ Q I p
  exact h ad H σ _ I fun vs ad1 H1 svs s1 h1 I1 F1 r1 => h1 ad1 H1 σ vs Q I1 r1 (p.step F1)
theorem vrs1 {ad : List Addr} {m : Mem} {H : Hp} {vs : List V} {x : SV} (h : VRs K Zc ad m H vs [x]) : ∃ v, vs = [v] ∧ VR K Zc ad m H v x := by
  match vs, h with
  | [v], h => exact ⟨v, rfl, h.1⟩
  | [], h => exact h.elim
  | _ :: _ :: _, h => exact h.2.elim
theorem vrs2 {ad : List Addr} {m : Mem} {H : Hp} {vs : List V} {x y : SV} (h : VRs K Zc ad m H vs [x, y]) : ∃ v u, vs = [v, u] ∧ VR K Zc ad m H v x ∧ VR K Zc ad m H u y := by
  refine NoI.keep (fun _ wNoI => ?_) ?_
  simp only [↓ NoI.wrOf wNoI (by
  clear wNoI
  match vs, h with
  | [v, u], h => exact ⟨v, u, rfl, h.1, h.2.1⟩
  | [], h => exact h.elim
  | [_], h => exact h.2.elim
  | _ :: _ :: _ :: _, h => exact h.2.2.elim
  )]
  intro _ hNoI
  simpa using (fun (_ : NoI.Sg) => hNoI) [5]
def rLenU (K : PySem.W.Frag) : List V → Hp → VK → Prop := fun xs H Q => ∃ x n, xs = [x] ∧ LenV K x H n ∧ Q (.int n) H
theorem cb_lenL {ds : List D} (h1 : rd s.mem x = some (.list ds)) (k : Φ (.dat (.int ds.length)) s) : CbS K Zc (rLenU K) [x] s Φ := by
  refine NoI.keep (fun _ wNoI => ?_) ?_
  simp only [↓ NoI.wrOf wNoI (by
  clear wNoI
  intro ad H σ vs Q I r p
  obtain ⟨v, rfl, r1⟩ := vrs1 r
  obtain ⟨a, us, rfl, e1, d1⟩ := rd_lst I.mr r1 h1
  exact ⟨_, ds.length, rfl, .inl ⟨us, SqL.of e1, (dpAll_len d1).symm⟩, p.val I k (sv := .dat _) (.int _)⟩
  )]
  intro _ hNoI
  simpa using (fun (_ : NoI.Sg) => hNoI) [5]
theorem cb_lenT {ds : List D} (h1 : rd s.mem x = some (.tuple ds)) (k : Φ (.dat (.int ds.length)) s) : CbS K Zc (rLenU K) [x] s Φ := by
  refine NoI.keep (fun _ wNoI => ?_) ?_
  simp only [↓ NoI.wrOf wNoI (by
  clear wNoI
  intro ad H σ vs Q I r p
  obtain ⟨v, rfl, r1⟩ := vrs1 r
  obtain ⟨a, us, rfl, e1, d1⟩ := rd_tup I.mr r1 h1
  exact ⟨_, ds.length, rfl, .inr ⟨us, e1, (dpAll_len d1).symm⟩, p.val I k (sv := .dat _) (.int _)⟩
  )]
  intro _ hNoI
  simpa using (fun (_ : NoI.Sg) => hNoI) [5]
theorem cb_lenS {z : Str} (h1 : rd s.mem x = some (.str z)) (hz : z.length ≤ sizeLine) (k : Φ (.dat (.int z.length)) s) : CbS K Zc (rLenU K) [x] s Φ := by
  refine NoI.keep (fun _ wNoI => ?_) ?_
  simp only [↓ NoI.wrOf wNoI (by
  clear wNoI
  intro ad H σ vs Q I r p
  obtain ⟨v, rfl, r1⟩ := vrs1 r
  have := rd_str I.mr r1 h1
  subst this
  exact ⟨_, z.length, rfl, ⟨hz, rfl⟩, p.val I k (sv := .dat _) (.int _)⟩
  )]
  intro _ hNoI
  simpa using (fun (_ : NoI.Sg) => hNoI) [5]
def rAbs : List V → Hp → VK → Prop := fun xs H Q => ∃ i, xs = [.int i] ∧ Q (.int (if i < 0 then -i else i)) H
theorem cb_abs {i : Int} (h1 : rd s.mem x = some (.int i)) (k : Φ (.dat (.int (if i < 0 then -i else i))) s) : CbS K Zc rAbs [x] s Φ := by
  intro ad H σ vs Q I r p
  obtain ⟨v, rfl, r1⟩ := vrs1 r
  exact ⟨i, by rw [rd_int I.mr r1 h1], p.val I k (sv := .dat _) (.int _)⟩
def rInt1 : List V → Hp → VK → Prop := fun xs H Q => (∃ i, xs = [.int i] ∧ Q (.int i) H) ∨ ∃ k, xs = [.bl k] ∧ Q (.int (if k then 1 else 0)) H
theorem cb_int {i : Int} (h1 : rd s.mem x = some (.int i)) (k : Φ (.dat (.int i)) s) : CbS K Zc rInt1 [x] s Φ := by
  intro ad H σ vs Q I r p
  obtain ⟨v, rfl, r1⟩ := vrs1 r
  exact .inl ⟨i, by rw [rd_int I.mr r1 h1], p.val I k (sv := .dat _) (.int _)⟩
def rListU (K : PySem.W.Frag) : List V → Hp → VK → Prop := fun xs H Q => ∃ p ys, xs = [.ref p] ∧ (SqL K H p ys ∨ SqT K H p ys) ∧ ∀ l, H l = none → Q (.ref l) (upd H l (.lst ys))
theorem cb_listL {ds : List D} (h1 : rd s.mem x = some (.list ds)) (k : Φ (.own s.mem.length) ⟨s.sl, s.mem ++ [some (.list ds)]⟩) : CbS K Zc (rListU K) [x] s Φ := by
  refine NoI.keep (fun _ wNoI => ?_) ?_
  simp only [↓ NoI.wrOf wNoI (by
  clear wNoI
  intro ad H σ vs Q I r p
  obtain ⟨v, rfl, r1⟩ := vrs1 r
  obtain ⟨a, us, rfl, e1, d1⟩ := rd_lst I.mr r1 h1
  exact ⟨a, us, rfl, .inl (SqL.of e1), fun q hq => p.lst I k hq d1⟩
  )]
  intro _ hNoI
  simpa using (fun (_ : NoI.Sg) => hNoI) [5]
theorem cb_listT {ds : List D} (h1 : rd s.mem x = some (.tuple ds)) (k : Φ (.own s.mem.length) ⟨s.sl, s.mem ++ [some (.list ds)]⟩) : CbS K Zc (rListU K) [x] s Φ := by
  refine NoI.keep (fun _ wNoI => ?_) ?_
  simp only [↓ NoI.wrOf wNoI (by
  clear wNoI
  intro ad H σ vs Q I r p
  obtain ⟨v, rfl, r1⟩ := vrs1 r
  obtain ⟨a, us, rfl, e1, d1⟩ := rd_tup I.mr r1 h1
  exact ⟨a, us, rfl, .inr e1, fun q hq => p.lst I k hq d1⟩
  )]
  intro _ hNoI
  simpa using (fun (_ : NoI.Sg) => hNoI) [5]
theorem cb_tupL {ds : List D} (h1 : rd s.mem x = some (.list ds)) (k : Φ (.dat (.tuple ds)) s) : CbS K Zc (rTupU K) [x] s Φ := by
  refine NoI.keep (fun _ wNoI => ?_) ?_
  simp only [↓ NoI.wrOf wNoI (by
  clear wNoI
  intro ad H σ vs Q I r p
  obtain ⟨v, rfl, r1⟩ := vrs1 r
  obtain ⟨a, us, rfl, e1, d1⟩ := rd_lst I.mr r1 h1
  exact ⟨a, us, rfl, .inl ⟨SqL.of e1, p.tup I k d1⟩⟩
  )]
  intro _ hNoI
  simpa using (fun (_ : NoI.Sg) => hNoI) [5]
theorem cb_tupT {ds : List D} (h1 : rd s.mem x = some (.tuple ds)) (k : Φ (.dat (.tuple ds)) s) : CbS K Zc (rTupU K) [x] s Φ := by
  refine NoI.keep (fun _ wNoI => ?_) ?_
  simp only [↓ NoI.wrOf wNoI (by
  clear wNoI
  intro ad H σ vs Q I r p
  obtain ⟨v, rfl, r1⟩ := vrs1 r
  have hx := rd_tupD I.mr r1 h1
  subst hx
  obtain ⟨a, us, rfl, e1, d1⟩ := rd_tup I.mr r1 h1
  exact ⟨a, us, rfl, .inr ⟨e1, p.val I k r1⟩⟩
  )]
  intro _ hNoI
  simpa using (fun (_ : NoI.Sg) => hNoI) [5]
/-- repr of a list or a tuple -/
def rReprU (K : PySem.W.Frag) : List V → Hp → VK → Prop := fun xs H Q => ∃ a d, xs = [.ref a] ∧ Dp K H (.ref a) d ∧ d.showable = true ∧ d.hasDict = false ∧ d.depth ≤ 60 ∧ d.shown.length ≤ sizeLine ∧ Q (.str d.shown) H
theorem call_reprU {X : Cx} {k : Nat} (hg : X.A.guards = some []) (hr : Room k X.A) : CallR X (.builtin "repr") (rReprU X.K) := by
  refine NoI.keep (fun _ wNoI => ?_) ?_
  simp only [↓ NoI.wrOf wNoI (by
  clear wNoI
  intro pins s σ H xs us Q I r h
  obtain ⟨a, d, rfl, hd, h1, h2, h3, h4, q⟩ := h
  obtain ⟨u, rfl, rx⟩ := vals1 r
  cases rx
  obtain ⟨as, r1⟩ := Dp.reads I d _ _ hd rfl
  have := hr.units
  exact repr_of_reads' r1 h1 (PyData.noDict_hsm h2) hg (by omega) (fun _ _ e => e) (fun h' u tk hk => ⟨.str _, H, I.kept hk, ⟨_, rfl⟩, q⟩) h4
  )]
  intro _ hNoI
  simpa using (fun (_ : NoI.Sg) => hNoI) [5]
theorem cb_repr {d : D} (h1 : rd s.mem x = some d) (hl : (∃ ds, d = .list ds) ∨ ∃ ds, d = .tuple ds) (h2 : d.showable = true) (h3 : d.hasDict = false) (h4 : d.depth ≤ 60) (h5 : d.shown.length ≤ sizeLine) (k : Φ (.dat (.str d.shown)) s) : CbS K Zc (rReprU K) [x] s Φ := by
  refine NoI.keep (fun _ wNoI => ?_) ?_
  simp only [↓ NoI.wrOf wNoI (by
  clear wNoI
  intro ad H σ vs Q I r p
  obtain ⟨v, rfl, r1⟩ := vrs1 r
  have e := rd_D I.mr r1 h1
  have e' := dp_of _ _ e h3
  rcases hl with ⟨ds, rfl⟩ | ⟨ds, rfl⟩
  · cases e' with
    | lst a b => exact ⟨_, _, rfl, .lst a b, h2, h3, h4, h5, p.val I k (sv := .dat _) (.str _)⟩
  · cases e' with
    | tup a b => exact ⟨_, _, rfl, .tup a b, h2, h3, h4, h5, p.val I k (sv := .dat _) (.str _)⟩
  )]
  intro _ hNoI
  simpa using (fun (_ : NoI.Sg) => hNoI) [5]
/-! ### methods -/
def MtS (K : PySem.W.Frag) (Zc : Addr → Prop) (r : V → List V → Hp → VK → Prop) (x : SV) (xs : List SV) (s : S) (Φ : SV → S → Prop) : Prop :=
  ∀ ad H σ v vs Q, SR K Zc ad H σ s → VR K Zc ad s.mem H v x → VRs K Zc ad s.mem H vs xs → Post K Zc ad H σ s Φ Q → r v vs H Q
theorem ev_bmL {r : V → List V → Hp → VK → Prop} {to : TE} {ta : TA} (h : EvS K Zc to s fun x s1 => (∃ ds, rd s1.mem x = some (.list ds)) ∧ ArS K Zc ta s1 fun xs s2 => MtS K Zc r x xs s2 Φ) : EvS K Zc (tBM K "list" r to ta) s Φ := by
  refine NoI.keep (fun _ wNoI => ?_) ?_
  simp only [↓ NoI.wrOf wNoI (by
  clear wNoI
  intro ad H σ Q I p
  refine h ad H σ _ I fun v ad1 H1 x s1 h1 I1 F1 r1 => ?_
  obtain ⟨⟨ds, e⟩, h1⟩ := h1
  obtain ⟨a, vs, rfl, e1, d1⟩ := rd_lst I1.mr r1 e
  exact ⟨.inl ⟨rfl, vs, SqL.of e1⟩, h1 ad1 H1 σ _ I1 fun vs ad2 H2 svs s2 h2 I2 F2 r2 => h2 ad2 H2 σ _ vs Q I2 (r1.frm F2) r2 ((p.step F1).step F2)⟩
  )]
  intro _ hNoI
  simpa using (fun (_ : NoI.Sg) => hNoI) [5]
theorem ev_bmL0 {r : V → List V → Hp → VK → Prop} {to : TE} (h : EvS K Zc to s fun x s1 => (∃ ds, rd s1.mem x = some (.list ds)) ∧ MtS K Zc r x [] s1 Φ) : EvS K Zc (tBM0 K "list" r to) s Φ := by
  refine NoI.keep (fun _ wNoI => ?_) ?_
  simp only [↓ NoI.wrOf wNoI (by
  clear wNoI
  intro ad H σ Q I p
  refine h ad H σ _ I fun v ad1 H1 x s1 h1 I1 F1 r1 => ?_
  obtain ⟨⟨ds, e⟩, h1⟩ := h1
  obtain ⟨a, vs, rfl, e1, d1⟩ := rd_lst I1.mr r1 e
  exact ⟨.inl ⟨rfl, vs, SqL.of e1⟩, h1 ad1 H1 σ _ [] Q I1 r1 trivial (p.step F1)⟩
  )]
  intro _ hNoI
  simpa using (fun (_ : NoI.Sg) => hNoI) [5]
theorem own_at {ad : List Addr} {H : Hp} {m : Mem} {v : V} {i : Nat} {ds : List D} (h : MR K Zc ad H m) (r : VR K Zc ad m H v (.own i)) (e : m[i]? = some (some (.list ds))) : ∃ a vs, v = .ref a ∧ ad[i]? = some a ∧ H a = some (.lst vs) ∧ DVs K (FZ Zc ad m H) vs ds := by
  obtain ⟨a, o, rfl, h2, q2, q3⟩ := rd_obj h r e
  cases q3 with
  | lst q3 => exact ⟨a, _, rfl, h2, q2, q3⟩
theorem Post.putC {ad : List Addr} {H : Hp} {σ : L2.St} {Q : VK} {i : Nat} {ds es : D} {a : Addr} {u : HO} {v : V} {sv : SV} (p : Post K Zc ad H σ s Φ Q) (I : SR K Zc ad H σ s) (e : s.mem[i]? = some (some ds)) (ha : ad[i]? = some a) (hv : Cell K (FZ Zc ad s.mem H) a u es)
    (r : VR K Zc ad s.mem H v sv) (k : Φ sv ⟨s.sl, s.mem.set i (some es)⟩) : Q v (upd H a u) :=
  p v ad _ sv _ k (I.put e ha hv) (Frm.put e ha) (r.frm (Frm.put e ha))
theorem Post.put {ad : List Addr} {H : Hp} {σ : L2.St} {Q : VK} {i : Nat} {ds es : List D} {a : Addr} {vs : List V} {v : V} {sv : SV} (p : Post K Zc ad H σ s Φ Q) (I : SR K Zc ad H σ s) (e : s.mem[i]? = some (some (.list ds))) (ha : ad[i]? = some a) (hv : DVs K (FZ Zc ad s.mem H) vs es)
    (r : VR K Zc ad s.mem H v sv) (k : Φ sv ⟨s.sl, s.mem.set i (some (.list es))⟩) : Q v (upd H a (.lst vs)) := p.putC I e ha (.lst hv) r k
theorem mt_appendS {i : Nat} {ds : List D} {d : D} (e : s.mem[i]? = some (some (.list ds))) (hz : ds.length < sizeLine) (k : Φ (.dat .none) ⟨s.sl, s.mem.set i (some (.list (ds ++ [d])))⟩) : MtS K Zc rAppend (.own i) [.dat d] s Φ := by
  refine NoI.keep (fun _ wNoI => ?_) ?_
  simp only [↓ NoI.wrOf wNoI (by
  clear wNoI
  intro ad H σ v vs Q I r1 r2 p
  obtain ⟨y, rfl, ry⟩ := vrs1 r2
  obtain ⟨a, us, rfl, ha, hH, hd⟩ := own_at I.mr r1 e
  exact ⟨a, us, y, rfl, rfl, hH, by rw [dpAll_len hd]; exact hz, p.put I e ha (dpAll_append hd (.cons ry .nil)) (sv := .dat .none) .non k⟩
  )]
  intro _ hNoI
  simpa using (fun (_ : NoI.Sg) => hNoI) [5]
theorem dvs_dropLast {H : Hp} : ∀ {vs : List V} {ds : List D}, DVs K H vs ds → DVs K H vs.dropLast ds.dropLast := fun {vs ds} h => by
  rw [List.dropLast_eq_take, List.dropLast_eq_take, dpAll_len h]
  exact dpAll_take _ h
theorem mt_popS {i : Nat} {ds : List D} {d : D} (e : s.mem[i]? = some (some (.list ds))) (hl : ds.getLast? = some d) (k : Φ (.dat d) ⟨s.sl, s.mem.set i (some (.list ds.dropLast))⟩) : MtS K Zc rPop (.own i) [] s Φ := by
  refine NoI.keep (fun _ wNoI => ?_) ?_
  simp only [↓ NoI.wrOf wNoI (by
  clear wNoI
  intro ad H σ v vs Q I r1 r2 p
  have : vs = [] := by
    match vs, r2 with
    | [], _ => rfl
    | _ :: _, h => exact h.elim
  subst this
  obtain ⟨a, us, rfl, ha, hH, hd⟩ := own_at I.mr r1 e
  rw [List.getLast?_eq_getElem?] at hl
  obtain ⟨w, q1, q2⟩ := dpAll_get hd hl
  refine ⟨a, us, w, rfl, rfl, hH, by rw [dpAll_len hd]; exact q1, ?_⟩
  exact p.put I e ha (dvs_dropLast hd) (sv := .dat d) q2 k
  )]
  intro _ hNoI
  simpa using (fun (_ : NoI.Sg) => hNoI) [5]
def rInsert : V → List V → Hp → VK → Prop := fun x vs H Q => ∃ (l : Addr) (xs : List V) (i : Int) (y : V), x = .ref l ∧ vs = [.int i, y] ∧ H l = some (.lst xs) ∧ xs.length < sizeLine ∧ 0 ≤ i ∧ i < 2 ^ 63 ∧ Q .non (upd H l (.lst (xs.take i.toNat ++ [y] ++ xs.drop i.toNat)))
theorem mt_insertS {i : Nat} {ds : List D} {d : D} {j : Int} (e : s.mem[i]? = some (some (.list ds))) (hz : ds.length < sizeLine) (h0 : 0 ≤ j) (h1 : j < 2 ^ 63) (k : Φ (.dat .none) ⟨s.sl, s.mem.set i (some (.list (ds.take j.toNat ++ [d] ++ ds.drop j.toNat)))⟩) :
    MtS K Zc rInsert (.own i) [.dat (.int j), .dat d] s Φ := by
  refine NoI.keep (fun _ wNoI => ?_) ?_
  simp only [↓ NoI.wrOf wNoI (by
  clear wNoI
  intro ad H σ v vs Q I r1 r2 p
  obtain ⟨x, y, rfl, rx, ry⟩ := vrs2 r2
  cases rx
  obtain ⟨a, us, rfl, ha, hH, hd⟩ := own_at I.mr r1 e
  exact ⟨a, us, j, y, rfl, rfl, hH, by rw [dpAll_len hd]; exact hz, h0, h1, p.put I e ha (dpAll_append (dpAll_append (dpAll_take _ hd) (.cons ry .nil)) (dpAll_drop _ hd)) (sv := .dat .none) .non k⟩
  )]
  intro _ hNoI
  simpa using (fun (_ : NoI.Sg) => hNoI) [5]
end
end SH

namespace SH
open PySem PySem.Spec PyProof.Rows L2

/-! ### what a def promises where no repr of a list is under way -/
structure FnG (P : Program) (w : World) (K : PySem.W.Frag) (mg : Str → Option Value)
    (base : Heap) (CX : CXT) (k : Nat) (f : Addr) (fd : FuncData) (ps : List Str) (sp : Sp) : Prop where
  len : ∀ vs H Q E, sp vs H Q E → vs.length = ps.length
  run : ∀ (A : Around) (outer : List Env) (s : Shared) (H : Hp) (args : Args)
    (us : List Value) (vs : List V) (Q : VK) (E : XK), A.guards = some [] → Room k A →
    Env0 P w K mg base A outer s H → BindsTo s fd args (ps.zip us) → Vals vs us →
    sp vs H Q E → codeAny (model P w) A (.call (.ref f) args) (CR CX outer P w H s Q E) s
section
variable {P : Program} {w : World} {K : PySem.W.Frag} {mg : Str → Option Value}
  {base : Heap} {CX : CXT} {f : Addr} {fd : FuncData} {sp : Sp}
theorem FnG.mono {j k : Nat} {ps : List Str} (F : FnG P w K mg base CX j f fd ps sp)
    (h : j ≤ k) : FnG P w K mg base CX k f fd ps sp :=
  ⟨F.len, fun A o s H a us vs Q E g r => F.run A o s H a us vs Q E g (r.mono h)⟩
theorem fnG_of {x qual : Str} {st : Stmt} {N ps : List Str} {k : Nat}
    (F : Fun K x qual st f fd) (S : FnScope N ps (defScope st))
    (len : ∀ vs H Q E, sp vs H Q E → vs.length = ps.length)
    (body : ∀ (cdv : Value) (A : Around) (outer : List Env) (s : Shared) (H : Hp)
      (vs : List V) (Q : VK) (E : XK), A.guards = some [] →
      Room k (A.deeper (envOfC qual (defScope st) s.heap.objs.size f cdv)) → sp vs H Q E →
      ∃ t, PSs (cxOf CX P w K mg base N qual (defScope st) f cdv A outer s H E) (defBody st) t ∧
        t { nx := fun _ H' => Q .non H', rt := Q } (start N vs) H) :
    FnG P w K mg base CX (k + 1) f fd ps sp := by
  refine NoI.keep (fun _ wNoI => ?_) ?_
  simp only [↓ NoI.wrOf wNoI (by
  clear wNoI
  obtain ⟨oc, od, kV, doc, pm, an, cdv, ct, osl, rfl, lk, cdk⟩ := F.ex
  refine ⟨len, fun A outer s H args us vs Q E hG hR e0 bt rv sh => ?_⟩
  have n0 := len _ _ _ _ sh
  have kIn : K.In s.heap := e0.mod.kin.keeps fun b o e => (e0.bs b o e).1
  have noLim : s.heap.NoLimit := e0.mod.nolimit.keeps fun b o e => (e0.bs b o e).1
  have kinds : ∀ y ∈ ps.zip us, (defScope st).names.lookup y.1 = some .local ∨
      ((defScope st).names.lookup y.1 = some .cell ∧
        ((cellsFrom (s.heap.objs.size + 1) (defScope st).names []).lookup y.1).isSome = true) := by
    rintro ⟨n, v⟩ hy
    exact (S.par n (List.of_mem_zip hy).1).imp id fun q => ⟨q, PySem.W.cellsFrom_some _ _ _ (.inl q)⟩
  refine codeAny_call_function hR.depth (kIn _ _ lk) rfl S.co S.gen rfl
    (PySem.W.codeRec_of kIn cdk) (bt _ _ _ _ ?_)
  refine wpAny_newFunctionEnv_cells S.kind kinds ?_
  intro env he s1 x
  subst he
  refine ⟨noLim.keeps x.toInCall.keep, codeAny_func ?_⟩
  obtain ⟨t, ht, hq⟩ := body cdv A outer s H vs Q E hG (hR.deeper _) sh
  have J := inv_start S hR.hd e0 n0 rv x (CX := CX) (E := E)
  refine wpAny_mono (ht.run [] s1 (start N vs) H _ J hq) ?_ fun e s' z => z
  intro fl s' z
  cases fl with
  | ret u =>
    obtain ⟨v, σ', H', J', r', q⟩ := z
    exact ⟨v, H', J'.os, J'.bare, J'.base, J'.hok, r', q⟩
  | next =>
    obtain ⟨σ', H', J', q⟩ := z
    exact ⟨V.non, H', J'.os, J'.bare, J'.base, J'.hok, rfl, q⟩
  | brk => exact False.elim z.choose_spec.choose_spec.2
  | cont => exact False.elim z.choose_spec.choose_spec.2
  )]
  intro _ hNoI
  simpa using (fun (_ : NoI.Sg) => hNoI) [5]
end
/-! ### its call -/
section
variable {X : Cx} {CX : CXT} {k : Nat} {f : Addr} {fd : FuncData} {ps : List Str} {sp : Sp}
  {dvs : List V} {ds : List Value} {E : XK} {x : Str} {p pos : Pos} {e : Expr} {es : List Expr} {t : TA}
theorem runG {pins : List (Addr × Obj)} {σ : L2.St} {H : Hp} {s : Shared} {Q : VK} {us : List Value} {vs : List V}
    (F : FnG X.prog X.w X.K X.mg X.base CX k f fd ps sp) (hG : X.A.guards = some []) (hr : Room k X.A)
    (hb : Binds X.K fd ps ds) (hd : Vals dvs ds) (hx : Passes CX X E) (I : Inv X pins σ H s)
    (r : Vals vs us) (h : sp (vs ++ dvs) H Q E) :
    wpAny (model X.prog X.w) X.A (call (.ref f) us) (EP X pins σ Q) X.xe s := by
  refine NoI.keep (fun _ wNoI => ?_) ?_
  simp only [↓ NoI.wrOf wNoI (by
  clear wNoI
  have rr : Vals (vs ++ dvs) (us ++ ds) := r.append hd
  have n0 : (us ++ ds).length = ps.length := rr.length ▸ F.len _ _ _ _ h
  refine wpAny_call (codeAny_mono (F.run X.A X.stack s H ⟨us, []⟩ (us ++ ds) (vs ++ dvs) Q E hG hr
    I.env0 (hb s us I.kIn n0) rr h) ?_)
  rintro (e | fl) s' hq
  · exact hx pins σ H s e s' I hq
  · cases fl with
    | ret u => exact I.after hq
    | next => exact hq.elim
    | brk => exact hq.elim
    | cont => exact hq.elim
  )]
  intro _ hNoI
  simpa using (fun (_ : NoI.Sg) => hNoI) [5]
theorem pe_callG (F : FnG X.prog X.w X.K X.mg X.base CX k f fd ps sp) (hG : X.A.guards = some [])
    (hr : Room k X.A) (hg : Gl X x) (hm : X.mg x = some (.ref f)) (hk : PySem.W.keepIn X.K (.ref f) = true)
    (hb : Binds X.K fd ps ds) (hd : Vals dvs ds) (hx : Passes CX X E) (ha : PA X (e :: es) t)
    (hdb : (x == ("__debug__" : Str)) = false := by decide)
    (he : starEach (e :: es) X.env = (false, eval e X.env) :: starEach es X.env := by rfl)
    (hpl : (backTo pos (starEach es X.env)).any (·.1) = false := by rfl) :
    PE X (.Call (.Name x p) (e :: es) [] pos) (tCall sp dvs E t) := by
  refine NoI.keep (fun _ wNoI => ?_) ?_
  simp only [↓ NoI.wrOf wNoI (by
  clear wNoI
  refine ⟨fun pins s σ H Q I h => wpAny_Call_Name_kw (ld_glob I hg hm ?_ hdb)⟩
  refine PySem.W.callWith_K (h₀ := X.base) I.ok.mod.kin hk ?_ he hpl
  refine thn (ha.run pos pins s σ H _ I h) ?_
  rintro us s1 ⟨vs, H1, J, r, q⟩
  exact ⟨J.kIn, runG F hG hr hb hd hx J r q⟩
  )]
  intro _ hNoI
  simpa using (fun (_ : NoI.Sg) => hNoI) [5]
end
/-! ### the head: the law's call behind the top -/
theorem only_one {a : Addr} {u : HO} {b : Addr} {z : HO}
    (h : (if b = a then some u else none) = some z) : b = a ∧ u = z := by
  by_cases e : b = a
  · rw [if_pos e] at h; exact ⟨e, Option.some.inj h⟩
  · rw [if_neg e] at h; cases h
theorem law_callG {P : Program} {w : World} {K : PySem.W.Frag} {mg mb : Str → Option Value} {k : Nat}
    {fa a : Addr} {fd : FuncData} {x : Str} {sp : Sp} {s1 : Shared} {vs : List Value} {ns : List Int}
    (kIn : K.In s1.heap) (hmg : s1.heap.Ns mainGlobals mg) (hmb : s1.heap.Ns builtinsNs mb)
    (hbb : ∀ x : Str, x ≠ "__name__" → mb x = bootBuiltins x) (noLim : s1.heap.NoLimit) (hgen : s1.gens = #[])
    (ha : s1.heap.get? a = some { cls := .type "list", data := .seq vs.toArray }) (hInts : IntsAre vs ns)
    (small : ns.length ≤ sizeLine) (hr : Room k callerA)
    (F : ∀ base : Heap, K.In base → base.Ns mainGlobals mg → FnG P w K mg base CX0 k fa fd [x] sp)
    (bind : ∀ (s : Shared) (u : Value), BindsTo s fd ⟨[u], []⟩ [(x, u)])
    (hsp : ∀ H : Hp, Only H → SqL K H a (ns.map V.int) → sp [.ref a] H (fun v _ => v = .bl true) fun _ _ _ => False) :
    codeAny (model P w) callerA (.call (.ref fa) ⟨[.ref a], []⟩)
      (fun r s' => r = .ok (.ret (.bool true)) ∧ OldK s1.heap s'.heap ∧ s'.os = s1.os ∧ AllBare s'.gens) s1 := by
  refine NoI.keep (fun _ wNoI => ?_) ?_
  simp only [↓ NoI.wrOf wNoI (by
  clear wNoI
  -- the abstract heap: the script alone, unless it is one of the module's own
  obtain ⟨H, hO, hS, ok, only, notK⟩ : ∃ H : Hp, Only H ∧ SqL K H a (ns.map V.int) ∧ HOk P w H s1.heap ∧
      (∀ b, H b ≠ none → b = a) ∧ (H a ≠ none → K.lookup a = none) := by
    have rv := vals_ints hInts
    have len := hInts.length
    cases q : K.lookup a with
    | some o =>
      have e := kIn a o q
      rw [ha] at e
      cases e
      refine ⟨fun _ => none, fun _ => .inl rfl, .inr ⟨_, vs.toArray, _, q, rfl, rfl, rfl, ?_, by simpa using rv⟩,
        fun b u z => (by cases (show (none : Option HO) = some u from z)), fun b z => absurd rfl z, fun z => absurd rfl z⟩
      rw [List.size_toArray, len]
      exact small
    | none =>
      let frozen : HO := .frz { cls := .type "list", data := .seq vs.toArray } (.lst (ns.map V.int))
      refine ⟨fun b => if b = a then some frozen else none, fun b => ?_, .inl (.inr ⟨_, if_pos rfl⟩), fun b u z => ?_,
        fun b z => ?_, fun _ => rfl⟩
      · by_cases e : b = a
        · exact .inr ⟨_, _, if_pos e⟩
        · exact .inl (if_neg e)
      · obtain ⟨e, e2⟩ := only_one z
        subst e e2
        exact ⟨ha, by rw [List.length_map]; exact small, vs, _, rv, ha⟩
      · by_cases e : b = a
        · exact e
        · exact absurd (if_neg e) z
  -- the base: all but what is tracked
  have here : ∀ {b : Addr} {o : Obj}, s1.heap.get? b = some o → H b = none → (hidT s1.heap H).get? b = some o :=
    fun e n => hidT_get e n
  have dicts : ∀ {b : Addr} {m : Str → Option Value}, s1.heap.Ns b m → (hidT s1.heap H).Ns b m := by
    rintro b m ⟨o, es, ep, e, d, r⟩
    refine ⟨o, es, ep, here e ?_, d, r⟩
    cases q : H b with
    | none => rfl
    | some u =>
      have e2 : b = a := only b (by rw [q]; intro z; cases z)
      rw [e2, ha] at e
      cases e
      cases (show Data.seq vs.toArray _ = Data.dict es ep from d)
  have kBase : K.In (hidT s1.heap H) := by
    intro b o e
    refine here (kIn b o e) ?_
    cases q : H b with
    | none => rfl
    | some u =>
      have e2 : b = a := only b (by rw [q]; intro z; cases z)
      subst e2
      rw [notK (by rw [q]; intro z; cases z)] at e
      cases e
  obtain ⟨ml, l1, l2⟩ := noLim
  have env : Env0 P w K mg (hidT s1.heap H) callerA [] s1 H :=
    { frames := rfl, mod := ⟨kBase, dicts hmg, ⟨mb, dicts hmb, hbb⟩, ⟨ml, dicts l1, l2⟩⟩, bs := fun b o e => of_hidT e,
      bsz := Nat.le_of_eq (hidT_size _ _), funs := trivial, frf := fun b z => (by cases z), hok := ok, bare := .of_eq hgen }
  have run := (F _ kBase (dicts hmg)).run callerA [] s1 H ⟨[.ref a], []⟩ [.ref a] [.ref a] _ _ rfl hr env
    (bind s1 (.ref a)) (.cons rfl .nil) (hsp H hO hS)
  refine codeAny_mono run ?_
  rintro (e | fl) s' h
  · exact h.elim
  cases fl with
  | next => exact h.elim
  | brk => exact h.elim
  | cont => exact h.elim
  | ret u =>
    obtain ⟨v, H', os, bare, un, ok', r', rfl⟩ := h
    obtain rfl : u = Value.bool true := r'
    refine ⟨rfl, OldK.of_keep ?_, os, bare⟩
    intro b o e
    cases q : H b with
    | none => exact un.keep b o e q (fun z => by cases z) (fun z => by cases z)
    | some u =>
      rcases hO b with z | ⟨ob, xs, z⟩
      · rw [q] at z; cases z
      · have z2 := un.frzs b ob _ z
        have e1 := (ok b _ z).1
        rw [e] at e1
        cases e1
        exact (ok' b _ z2).1
  )]
  intro _ hNoI
  simpa using (fun (_ : NoI.Sg) => hNoI) [5]
theorem walk_ofG {l : PySem.W.OpenLaw} {n k : Nat} {q : Program} {loose : List Str}
    {XP : (Str → Option Value) → Heap → Prop} {YP : World → Heap → Prop} {d : DefRec} {K : Params → PySem.W.Frag}
    {sp : World → Sp} {x : Str} (hn : l.most = some n) (hn2 : n ≤ sizeLine) (hdf : d.params.defaults = [])
    (hr : Room k callerA) (hY : ∀ (w : World) (h : Heap), YP w h → (K w.params).In h)
    (F : ∀ (w : World) (mg : Str → Option Value) (fa : Addr) (h : Heap), (K w.params).In h →
      h.Ns mainGlobals mg → mg d.name = some (.ref fa) →
      ∃ fd : FuncData, (∀ (s : Shared) (u : Value), BindsTo s fd ⟨[u], []⟩ [(x, u)]) ∧
        ∀ base : Heap, (K w.params).In base → base.Ns mainGlobals mg → FnG l.prog w (K w.params) mg base CX0 k fa fd [x] (sp w))
    (hsp : ∀ (w : World) (H : Hp) (a : Addr) (ns : List Int), ns.length ≤ n → Only H → SqL (K w.params) H a (ns.map V.int) →
      sp w [.ref a] H (fun v _ => v = .bl true) fun _ _ _ => False) :
    PySem.W.WalkO q loose XP YP l.row.toRowW d [] (fun f vs => PySem.call f vs) := by
  refine NoI.keep (fun _ wNoI => ?_) ?_
  simp only [↓ NoI.wrOf wNoI (by
  clear wNoI
  refine Att.attach_call hn hdf ?_
  intro w s0 s1 mg mb fa o pm cd doc a vs ns G Y ho hd hcd hmg hobj hInts few hgen
  obtain ⟨fd, hb, hF⟩ := F w mg fa _ (hY w _ Y) G.T.g hmg
  exact law_callG (hY w _ Y) G.T.g G.T.b G.T.builtins G.T.nolimit hgen hobj hInts (Nat.le_trans few hn2) hr hF hb
    fun H hO hS => hsp w H a ns few hO hS
  )]
  intro _ hNoI
  simpa using (fun (_ : NoI.Sg) => hNoI) [5]
end SH

namespace SH
open PySem PySem.Spec PyProof.Rows L2
variable [WW]

/-! ### a def's promise in data -/
abbrev Ct := List SV → Mem → (SV → Mem → Prop) → Prop
def spP (K : PySem.W.Frag) (C : Ct) : Sp := fun vs H Q E =>
  ∃ (Zc : Addr → Prop) (ad : List Addr) (svs : List SV) (m : Mem) (Ψ : SV → Mem → Prop), C svs m Ψ ∧
    VRs K Zc ad m H vs svs ∧ MR K Zc ad H m ∧
    ∀ v ad' H' rv m', Ψ rv m' → MR K Zc ad' H' m' → Frm Zc m.length ad m H ad' m' H' → VR K Zc ad' m' H' v rv → Q v H'
def retE (Ψ : SV → Mem → Prop) : DE := { nx := fun s => Ψ (.dat .none) s.mem, rt := Ψ }
section
variable {P : Program} {w : World} {K : PySem.W.Frag} {mg : Str → Option Value} {base : Heap} {f : Addr} {fd : FuncData}
theorem sr_start {Zc : Addr → Prop} {ad : List Addr} {m : Mem} {H : Hp} {vs : List V} {svs : List SV} {N : List Str} (h : VRs K Zc ad m H vs svs) (M : MR K Zc ad H m) :
    SR K Zc ad H (start N vs) ⟨svs ++ List.replicate (N.length - svs.length) .un, m⟩ := by
  refine NoI.keep (fun _ wNoI => ?_) ?_
  simp only [↓ NoI.wrOf wNoI (by
  clear wNoI
  have hl := h.len
  refine ⟨by simp [L2.start, hl], fun i sv e => ?_, M⟩
  have e : (svs ++ List.replicate (N.length - svs.length) SV.un)[i]? = some sv := e
  unfold L2.start
  by_cases hi : i < svs.length
  · rw [List.getElem?_append_left hi] at e
    obtain ⟨v, e1, r⟩ := h.get e
    exact ⟨some v, by rw [List.getElem?_append_left (by simpa [hl] using hi), List.getElem?_map, e1]; rfl, .inr ⟨v, rfl, r⟩⟩
  · rw [List.getElem?_append_right (by omega), List.getElem?_replicate] at e
    split at e
    · cases e
      refine ⟨none, ?_, .inl rfl⟩
      rw [List.getElem?_append_right (by simp [hl]; omega), List.getElem?_replicate, List.length_map, hl, if_pos ‹_›]
    · cases e
  )]
  intro _ hNoI
  simpa using (fun (_ : NoI.Sg) => hNoI) [5]
theorem okG {x qual : Str} {st : Stmt} {N ps : List Str} {k : Nat} {C : Ct} (F : Fun K x qual st f fd) (S : FnScope N ps (defScope st))
    (len : ∀ svs m Ψ, C svs m Ψ → svs.length = ps.length)
    (body : ∀ (cdv : Value) (A : Around) (outer : List Env) (s : Shared) (H : Hp) (E : XK), A.guards = some [] → Room k (A.deeper (envOfC qual (defScope st) s.heap.objs.size f cdv)) →
      ∃ t, PSs (cxOf CX0 P w K mg base N qual (defScope st) f cdv A outer s H E).nox (defBody st) t ∧
        ∀ Zc svs m Ψ, C svs m Ψ → ExS K Zc m.length t ⟨svs ++ List.replicate (N.length - svs.length) .un, m⟩ (retE Ψ)) :
    FnG P w K mg base CX0 (k + 1) f fd ps (spP K C) := by
  refine NoI.keep (fun _ wNoI => ?_) ?_
  simp only [↓ NoI.wrOf wNoI (by
  clear wNoI
  refine fnG_of F S (fun vs H Q E h => ?_) fun cdv A outer s H vs Q E hG hR h => ?_
  · obtain ⟨Zc, ad, svs, m, Ψ, c, r, _⟩ := h
    rw [r.len, len _ _ _ c]
  · obtain ⟨t, ht, hb⟩ := body cdv A outer s H E hG hR
    obtain ⟨Zc, ad, svs, m, Ψ, c, r, M, q⟩ := h
    refine ⟨t, ht.nox, hb Zc svs m Ψ c ad H _ _ (sr_start r M) (Nat.le_refl _) ?_ ?_ ?_ ?_⟩
    · intro σ' ad' H' s' h1 I F1
      exact q _ ad' H' (.dat .none) s'.mem h1 I.mr F1 .non
    · intro v ad' H' rv m' h1 I F1 r1
      exact q v ad' H' rv m' h1 I F1 r1
    · intro _ _ _ _ h1; exact h1.elim
    · intro _ _ _ _ h1; exact h1.elim
  )]
  intro _ hNoI
  simpa using (fun (_ : NoI.Sg) => hNoI) [5]
end

section
variable {K : PySem.W.Frag} {Zc : Addr → Prop} {ad ad' ad2 : List Addr} {H H' H2 : Hp} {m m' m2 : Mem} {σ σ' : L2.St} {s s' s1 : S} {n : Nat} {Q : VK} {Φ : SV → S → Prop}
theorem Fz_congr {Z Z' : Addr → Prop} (h : ∀ a, Z a ↔ Z' a) : Fz Z H = Fz Z' H := by
  funext a
  unfold Fz
  by_cases q : Z a
  · rw [if_pos q, if_pos ((h a).mp q)]
  · rw [if_neg q, if_neg fun z => q ((h a).mpr z)]
theorem not_live_nil {a : Addr} : ¬ Live ad [] a := by
  rintro ⟨i, ds, h, _⟩
  simp at h
/-- no cell among them -/
def noOwn : List SV → Bool
  | [] => true
  | .dat _ :: r => noOwn r
  | .ro _ :: r => noOwn r
  | .rng _ _ :: r => noOwn r
  | _ :: _ => false
theorem vrs_noOwn {Zc' : Addr → Prop} (f : FZ Zc' ad' m' H = FZ Zc ad m H) : ∀ {vs : List V} {svs : List SV}, noOwn svs = true → VRs K Zc ad m H vs svs → VRs K Zc' ad' m' H vs svs
  | [], [], _, _ => trivial
  | v :: vs, .dat d :: svs, e, h => ⟨(by have := h.1; unfold VR at this ⊢; rw [f]; exact this), vrs_noOwn f e h.2⟩
  | v :: vs, .ro d :: svs, e, h => ⟨(by have := h.1; unfold VR at this ⊢; rw [f]; exact this), vrs_noOwn f e h.2⟩
  | v :: vs, .rng _ _ :: svs, e, h => ⟨(by have := h.1; unfold VR at this ⊢; rw [f]; exact this), vrs_noOwn f e h.2⟩
  | _, .own _ :: _, e, _ => by cases e
  | _, .un :: _, e, _ => by cases e
  | _, .exn _ _ _ :: _, e, _ => by cases e
  | [], .dat _ :: svs, _, h => h.elim
  | [], .ro _ :: svs, _, h => h.elim
  | [], .rng _ _ :: svs, _, h => h.elim
  | _ :: _, [], _, h => h.elim
/-- what comes back from a def that was handed no cell -/
def backP (s : S) (Φ : SV → S → Prop) (rv : SV) (m' : Mem) : Prop :=
  match rv with
  | .dat d => Φ (.dat d) s
  | .own i => match m'[i]? with
    | some (some ds) => Φ (.own s.mem.length) ⟨s.sl, s.mem ++ [some ds]⟩
    | _ => False
  | .ro _ => False
  | .rng _ _ => False
  | .exn _ _ _ => False
  | .un => False
/-- what is there stays; a dict that is none of Z's may be locked meanwhile -/
def SmZ (Z : Addr → Prop) (H H' : Hp) : Prop := ∀ a o, H a = some o → H' a = some o ∨ (¬ Z a ∧ Dc o = true ∧ ∃ od, H' a = some (.frz od o))
theorem SmZ.at {Z : Addr → Prop} (e : SmZ Z H H') {a : Addr} {o : HO} (h : H a = some o) (z : Z a) : H' a = some o := (e a o h).resolve_right fun q => q.1 z
theorem SmZ.ex {Z : Addr → Prop} (e : SmZ Z H H') {a : Addr} {o : HO} (h : H a = some o) : H' a ≠ none := by
  rcases e a o h with q | ⟨_, _, od, q⟩ <;> (rw [q]; intro z; cases z)
theorem SmZ.fz (e : SmZ (ZZ Zc ad m) H H') : Same (FZ Zc ad m H) (FZ Zc ad m H') := fun a o q => by
  obtain ⟨h1, h2⟩ := Fz_inv q
  rcases e a o h2 with q | ⟨_, q, od, r⟩
  · exact .inl (Fz_of h1 q)
  · exact .inr ⟨q, od, Fz_of h1 r⟩
theorem SmZ.of {Z : Addr → Prop} (e : ∀ b o, H b = some o → H' b = some o) : SmZ Z H H' := fun b o h => .inl (e b o h)
theorem MR.same (h : MR K Zc ad H m) (e : SmZ (ZZ Zc ad m) H H') : MR K Zc ad H' m := by
  refine NoI.keep (fun _ wNoI => ?_) ?_
  simp only [↓ NoI.wrOf wNoI (by
  clear wNoI
  have F : Same (FZ Zc ad m H) (FZ Zc ad m H') := e.fz
  refine ⟨fun i ds q => ?_, h.inj, h.zd, fun a q z => ?_, h.adl⟩
  · obtain ⟨a, vs, e1, e2, e3⟩ := h.cell i ds q
    exact ⟨a, vs, e1, e.at e2 (.inr ⟨i, ds, q, e1⟩), e3.mono F⟩
  · cases y : H a with
    | none => exact h.zt a q y
    | some o => exact e.ex y z
  )]
  intro _ hNoI
  simpa using (fun (_ : NoI.Sg) => hNoI) [5]
theorem Frm.ofSame (e : SmZ (ZZ Zc ad m) H H') : Frm Zc m.length ad m H ad m H' := ⟨fun a o h _ => (e _ _ h).imp id fun q => ⟨fun z => q.1 (.inl z), q.2⟩, fun _ h => .inl h, fun _ _ => rfl, Nat.le_refl _⟩
theorem SR.same (h : SR K Zc ad H σ s) (e : SmZ (ZZ Zc ad s.mem) H H') : SR K Zc ad H' σ s :=
  ⟨h.len, fun i sv q => by
    obtain ⟨o, e1, e2⟩ := h.slot i sv q
    exact ⟨o, e1, e2.frm (Frm.ofSame e)⟩, h.mr.same e⟩
/-- a list that was made meanwhile is taken over as a cell -/
theorem MR.adopt (h : MR K Zc ad H m) (e : SmZ (ZZ Zc ad m) H H') {p : Addr} {u : HO} {ds : D} (hp : H p = none) (hp' : H' p = some u) (hv : Cell K (FZ Zc (adN ad m p) (m ++ [some ds]) H') p u ds) :
    MR K Zc (adN ad m p) H' (m ++ [some ds]) ∧ Frm Zc m.length ad m H (adN ad m p) (m ++ [some ds]) H' := by
  refine NoI.keep (fun _ wNoI => ?_) ?_
  simp only [↓ NoI.wrOf wNoI (by
  clear wNoI
  have F : Frm Zc m.length ad m H (adN ad m p) (m ++ [some ds]) H' := by
    refine ⟨fun a o q _ => (e _ _ q).imp id fun q => ⟨fun z => q.1 (.inl z), q.2⟩, fun a q => ?_, fun i hi => adN_lt h.adl hi, by simp⟩
    rcases (live_adN h.adl).mp q with q | rfl
    · exact .inl q
    · exact .inr hp
  have N := h.newO hp (u := .lst []) (ds := .list []) (.lst .nil)
  refine ⟨⟨fun i es q => ?_, fun i j a es fs q1 q2 a1 a2 => ?_, fun a q r => ?_, fun a q z => ?_, by simpa using N.adl⟩, F⟩
  · by_cases hi : i < m.length
    · rw [List.getElem?_append_left hi] at q
      obtain ⟨a, us, e1, e2, e3⟩ := h.cell i es q
      exact ⟨a, us, by rw [adN_lt h.adl hi]; exact e1, e.at e2 (.inr ⟨i, es, q, e1⟩), e3.mono F.same⟩
    · have hj : i = m.length := by
        have := (List.getElem?_eq_some_iff.mp q).1
        rw [List.length_append] at this
        simp at this
        omega
      subst hj
      simp at q
      subst q
      exact ⟨p, u, adN_at h.adl, hp', hv⟩
  · have mk : ∀ {i : Nat} {gs : D}, (m ++ [some ds])[i]? = some (some gs) → ∃ hs, (m ++ [some (.list [])])[i]? = some (some hs) := by
      intro i gs q
      by_cases hi : i < m.length
      · rw [List.getElem?_append_left hi] at q ⊢; exact ⟨gs, q⟩
      · have hj : i = m.length := by
          have := (List.getElem?_eq_some_iff.mp q).1
          rw [List.length_append] at this
          simp at this
          omega
        subst hj
        exact ⟨.list [], by simp⟩
    obtain ⟨x1, y1⟩ := mk q1
    obtain ⟨x2, y2⟩ := mk q2
    exact N.inj i j a x1 x2 y1 y2 a1 a2
  · rcases (live_adN h.adl).mp r with r | rfl
    · exact h.zd a q r
    · exact h.zt _ q hp
  · cases y : H a with
    | none => exact h.zt a q y
    | some o => exact e.ex y z
  )]
  intro _ hNoI
  simpa using (fun (_ : NoI.Sg) => hNoI) [5]
theorem ev_call0 {C : Ct} {E : XK} {ta : TA} (h : ArS K Zc ta s fun svs s1 => noOwn svs = true ∧ C svs [] (backP s1 Φ)) : EvS K Zc (tCall (spP K C) [] E ta) s Φ := by
  refine NoI.keep (fun _ wNoI => ?_) ?_
  simp only [↓ NoI.wrOf wNoI (by
  clear wNoI
  intro ad H σ Q I p
  refine h ad H σ _ I fun vs ad1 H1 svs s1 h1 I1 F1 r1 => ?_
  obtain ⟨hd, c⟩ := h1
  have zz : ∀ a, ZZ (ZZ Zc ad1 s1.mem) [] [] a ↔ ZZ Zc ad1 s1.mem a := fun a => ⟨fun q => q.resolve_right not_live_nil, .inl⟩
  have fe : FZ (ZZ Zc ad1 s1.mem) [] [] H1 = FZ Zc ad1 s1.mem H1 := Fz_congr zz
  refine ⟨ZZ Zc ad1 s1.mem, [], svs, [], backP s1 Φ, c, by rw [List.append_nil]; exact vrs_noOwn fe hd r1, ⟨fun i ds q => by simp at q, fun i j a ds es q => by simp at q, fun a _ => not_live_nil, fun a q => ?_, Nat.le_refl _⟩, ?_⟩
  · rcases q with q | ⟨i, es, q1, q2⟩
    · exact I1.mr.zt a q
    · obtain ⟨b, us, e1, e2, _⟩ := I1.mr.cell i es q1
      rw [q2] at e1; cases e1
      rw [e2]; intro z; cases z
  · intro v ad' H' rv m' hΨ M' F' r'
    have sm : SmZ (ZZ Zc ad1 s1.mem) H1 H' := fun a o q => F'.keep a o q not_live_nil
    have p1 := p.step F1
    cases rv with
    | dat d =>
      refine p1 v ad1 H' (.dat d) s1 hΨ (I1.same sm) (Frm.ofSame sm) ?_
      refine dp_mono (.of fun a o q => ?_) v d r'
      obtain ⟨q1, q2⟩ := Fz_inv q
      exact Fz_of (fun z => q1 (.inl z)) q2
    | own i =>
      simp only [backP] at hΨ
      split at hΨ
      · rename_i es e
        obtain ⟨a, us, rfl, ha, hH, hv⟩ := rd_obj M' r' e
        have hp : H1 a = none := by
          rcases F'.new a ⟨i, es, e, ha⟩ with z | z
          · exact absurd z not_live_nil
          · exact z
        have hv' : Cell K (FZ Zc (adN ad1 s1.mem a) (s1.mem ++ [some es]) H') a us es := hv.mono (.of fun b o q => by
          obtain ⟨q1, q2⟩ := Fz_inv q
          refine Fz_of (fun z => ?_) q2
          rcases z with z | z
          · exact q1 (.inl (.inl z))
          · rcases (live_adN I1.mr.adl).mp z with z | rfl
            · exact q1 (.inl (.inr z))
            · exact q1 (.inr ⟨i, es, e, ha⟩))
        obtain ⟨N, G⟩ := I1.mr.adopt sm hp hH hv'
        refine p1 _ _ H' _ _ hΨ ⟨I1.len, fun j sv q => ?_, N⟩ G ⟨by simp, a, adN_at I1.mr.adl, rfl⟩
        obtain ⟨o, e1, e2⟩ := I1.slot j sv q
        exact ⟨o, e1, e2.frm G⟩
      · exact hΨ.elim
    | ro _ => exact hΨ.elim
    | rng _ _ => exact hΨ.elim
    | exn _ _ _ => exact hΨ.elim
    | un => exact hΨ.elim
  )]
  intro _ hNoI
  simpa using (fun (_ : NoI.Sg) => hNoI) [5]
/-- a def that is handed the cell j ahead of values -/
def backB (s : S) (j : Nat) (Φ : SV → S → Prop) (rv : SV) (m' : Mem) : Prop :=
  ∃ d bs, rv = .dat d ∧ m'[0]? = some (some bs) ∧ Φ (.dat d) ⟨s.sl, s.mem.set j (some bs)⟩
theorem ev_callB {C : Ct} {E : XK} {ta : TA} (h : ArS K Zc ta s fun svs s1 => ∃ j ws bs, svs = .own j :: ws ∧ noOwn ws = true ∧ s1.mem[j]? = some (some bs) ∧ C (.own 0 :: ws) [some bs] (backB s1 j Φ)) :
    EvS K Zc (tCall (spP K C) [] E ta) s Φ := by
  refine NoI.keep (fun _ wNoI => ?_) ?_
  simp only [↓ NoI.wrOf wNoI (by
  clear wNoI
  intro ad H σ Q I p
  refine h ad H σ _ I fun vs ad1 H1 svs s1 h1 I1 F1 r1 => ?_
  obtain ⟨j, ws, bs, rfl, hd, hj, c⟩ := h1
  have p1 := p.step F1
  obtain ⟨v0, vs, rfl⟩ : ∃ v0 r, vs = v0 :: r := by
    cases vs with
    | nil => exact r1.elim
    | cons a b => exact ⟨a, b, rfl⟩
  obtain ⟨r0, r2⟩ := r1
  obtain ⟨b, us, rfl, hb, hH, hv⟩ := rd_obj I1.mr r0 hj
  have zz : ∀ a, ZZ (ZZ Zc ad1 (s1.mem.set j none)) [b] [some bs] a ↔ ZZ Zc ad1 s1.mem a := fun a => by
    constructor
    · rintro ((q | q) | ⟨i, es, q1, q2⟩)
      · exact .inl q
      · exact .inr (live_none q)
      · have : i = 0 := by
          have := (List.getElem?_eq_some_iff.mp q1).1
          simp at this
          exact this
        subst this
        simp at q2
        subst q2
        exact .inr ⟨j, bs, hj, hb⟩
    · rintro (q | ⟨i, es, q1, q2⟩)
      · exact .inl (.inl q)
      · by_cases e : i = j
        · subst e
          rw [hb] at q2; cases q2
          exact .inr ⟨0, bs, rfl, rfl⟩
        · exact .inl (.inr ⟨i, es, get_set_none.mpr ⟨e, q1⟩, q2⟩)
  have fe : FZ (ZZ Zc ad1 (s1.mem.set j none)) [b] [some bs] H1 = FZ Zc ad1 s1.mem H1 := Fz_congr zz
  have nb : ¬ ZZ Zc ad1 (s1.mem.set j none) b := by
    rintro (q | ⟨i, es, q1, q2⟩)
    · exact I1.mr.zd b q ⟨j, bs, hj, hb⟩
    · obtain ⟨t1, t2⟩ := get_set_none.mp q1
      exact t1 (I1.mr.inj i j b es bs t2 hj q2 hb)
  have live1 : ∀ {a : Addr}, Live [b] [some bs] a → a = b := by
    rintro a ⟨i, es, q1, q2⟩
    have : i = 0 := by
      have := (List.getElem?_eq_some_iff.mp q1).1
      simp at this
      exact this
    subst this
    simp at q2
    exact q2.symm
  refine ⟨ZZ Zc ad1 (s1.mem.set j none), [b], .own 0 :: ws, [some bs], backB s1 j Φ, c, ?_, ⟨fun i es q => ?_, fun i k a es fs q1 q2 _ _ => ?_, fun a q r => nb (live1 r ▸ q), fun a q => ?_, Nat.le_refl _⟩, ?_⟩
  · rw [List.append_nil]
    exact ⟨⟨by simp, b, rfl, rfl⟩, vrs_noOwn fe hd r2⟩
  · have : i = 0 := by
      have := (List.getElem?_eq_some_iff.mp q).1
      simp at this
      exact this
    subst this
    simp at q
    subst q
    exact ⟨b, us, rfl, hH, by rw [fe]; exact hv⟩
  · have h1 := (List.getElem?_eq_some_iff.mp q1).1
    have h2 := (List.getElem?_eq_some_iff.mp q2).1
    simp at h1 h2
    omega
  · rcases q with q | q
    · exact I1.mr.zt a q
    · obtain ⟨i, es, q1, q2⟩ := live_none q
      obtain ⟨b, us, e1, e2, _⟩ := I1.mr.cell i es q1
      rw [q2] at e1; cases e1
      rw [e2]; intro z; cases z
  · intro v ad' H' rv m' hΨ M' F' r'
    obtain ⟨d, cs, rfl, hm, hΦ⟩ := hΨ
    have hb' : ad'[0]? = some b := by rw [F'.pre 0 (by simp)]; rfl
    obtain ⟨b2, us', e1, hH', hv'⟩ := M'.cell 0 cs hm
    rw [hb'] at e1; cases e1
    have keep : ∀ a o, H1 a = some o → a ≠ b → H' a = some o ∨ (¬ ZZ Zc ad1 (s1.mem.set j none) a ∧ Dc o = true ∧ ∃ od, H' a = some (.frz od o)) := fun a o q z => F'.keep a o q fun l => z (live1 l)
    have fl : Same (FZ (ZZ Zc ad1 (s1.mem.set j none)) ad' m' H') (FZ Zc ad1 (s1.mem.set j (some cs)) H') := .of fun a o q => by
      obtain ⟨q1, q2⟩ := Fz_inv q
      refine Fz_of (fun z => ?_) q2
      rcases z with z | z
      · exact q1 (.inl (.inl z))
      · obtain ⟨i, es, t1, t2⟩ := (live_set hj).mp z
        by_cases e : i = j
        · subst e
          rw [hb] at t2; cases t2
          exact q1 (.inr ⟨0, cs, hm, hb'⟩)
        · exact q1 (.inl (.inr ⟨i, es, get_set_none.mpr ⟨e, t1⟩, t2⟩))
    have G : Frm Zc s1.mem.length ad1 s1.mem H1 ad1 (s1.mem.set j (some cs)) H' :=
      ⟨fun a o q l => (keep a o q fun z => l (z ▸ ⟨j, bs, hj, hb⟩)).imp id (fun q => ⟨fun z => q.1 (.inl z), q.2⟩), fun a q => .inl ((live_set hj).mp q), fun _ _ => rfl, by simp⟩
    refine p1 v ad1 H' (.dat d) _ hΦ ⟨I1.len, fun k sv q => ?_, ⟨fun i es q => ?_, fun i k a es fs q1 q2 a1 a2 => ?_, fun a q r => I1.mr.zd a q ((live_set hj).mp r), fun a q z => ?_, by rw [List.length_set]; exact I1.mr.adl⟩⟩ G (dp_mono fl v d r')
    · obtain ⟨o, e1, e2⟩ := I1.slot k sv q
      exact ⟨o, e1, e2.frm G⟩
    · by_cases e : j = i
      · subst e
        rw [List.getElem?_set_self (List.getElem?_eq_some_iff.mp hj).1] at q
        simp at q
        subst q
        exact ⟨b, us', hb, hH', hv'.mono fl⟩
      · rw [List.getElem?_set_ne e] at q
        have q' := q
        obtain ⟨a, ys, e1, e2, e3⟩ := I1.mr.cell i es q
        have hab : a ≠ b := fun z => e (I1.mr.inj j i b bs es hj q hb (z ▸ e1))
        exact ⟨a, ys, e1, (keep a _ e2 hab).resolve_right fun q => q.1 (.inr ⟨i, es, get_set_none.mpr ⟨fun z => e z.symm, q'⟩, e1⟩), e3.mono G.same⟩
    · have un : ∀ {i : Nat} {gs : D}, (s1.mem.set j (some cs))[i]? = some (some gs) → ∃ hs, s1.mem[i]? = some (some hs) := fun {i gs} q => by
        by_cases z : j = i
        · subst z; exact ⟨bs, hj⟩
        · rw [List.getElem?_set_ne z] at q; exact ⟨gs, q⟩
      obtain ⟨x1, y1⟩ := un q1
      obtain ⟨x2, y2⟩ := un q2
      exact I1.mr.inj i k a x1 x2 y1 y2 a1 a2
    · cases y : H1 a with
      | none => exact I1.mr.zt a q y
      | some o =>
        by_cases hab : a = b
        · subst hab; exact I1.mr.zd a q ⟨j, bs, hj, hb⟩
        · rcases keep a o y hab with r | ⟨_, _, od, r⟩ <;> (rw [r] at z; cases z)
  )]
  intro _ hNoI
  simpa using (fun (_ : NoI.Sg) => hNoI) [5]
end
end SH

namespace SH
open PySem PySem.Spec PyProof.Rows L2
variable [WW]

/-! ### what is walked -/
/-- a walk gives these items, whatever is done meanwhile -/
def JOk (K : PySem.W.Frag) (Zc : Addr → Prop) (J : It) (items : List D) (F : Hp) : Prop :=
  ∀ (i : Nat) (ad : List Addr) (H : Hp) (m : Mem), Same F (FZ Zc ad m H) → MR K Zc ad H m →
    (i < items.length → J.go i H ∧ ∀ x H', J.yld i H x H' → (H' = H ∨ ∃ p o, H p = none ∧ H' = upd H p o) ∧ ∃ d, items[i]? = some d ∧ DV K (FZ Zc ad m H') x d) ∧
    (items.length ≤ i → J.stop i H)
def IterS (K : PySem.W.Frag) (Zc : Addr → Prop) (wi : TI) (s : S) (Φ : List D → S → Prop) : Prop :=
  ∀ ad H σ (R : It → Hp → Prop), SR K Zc ad H σ s →
    (∀ J ad' H' items s', Φ items s' → SR K Zc ad' H' σ s' → Frm Zc s.mem.length ad s.mem H ad' s'.mem H' → JOk K Zc J items (FZ Zc ad' s'.mem H') → R J H') → wi σ H R
section
variable {K : PySem.W.Frag} {Zc : Addr → Prop} {ad ad' ad2 : List Addr} {H H' H2 : Hp} {m m' m2 : Mem} {σ σ' : L2.St} {s s' s1 : S} {n : Nat} {Q : VK} {Φ : SV → S → Prop} {De : DE}
theorem lst_of {v : V} {ds : List D} (h : DV K H v (.list ds)) : ∃ a vs, v = .ref a ∧ H a = some (.lst vs) ∧ DVs K H vs ds := by
  cases h with
  | lst h1 h2 => exact ⟨_, _, rfl, h1, h2⟩
theorem tup_of {v : V} {ds : List D} (h : DV K H v (.tuple ds)) : ∃ a vs, v = .ref a ∧ SqT K H a vs ∧ DVs K H vs ds := by
  cases h with
  | tup h1 h2 => exact ⟨_, _, rfl, h1.sq, h2⟩
theorem jok_list {a : Addr} {vs : List V} {ds : List D} {F : Hp} (h : F a = some (.lst vs)) (hv : DVs K F vs ds) : JOk K Zc (Itl K a) ds F := by
  refine NoI.keep (fun _ wNoI => ?_) ?_
  simp only [↓ NoI.wrOf wNoI (by
  clear wNoI
  intro i ad H m e M
  have hH : SqL K H a vs := SqL.of (Fz_at (e.nd h rfl))
  have hv' := dpAll_mono e _ _ hv
  refine ⟨fun hi => ⟨⟨vs, vs[i]'(by rw [dpAll_len hv]; exact hi), hH, List.getElem?_eq_getElem _⟩, fun x H' y => ?_⟩, fun hi => ⟨vs, hH, by rw [dpAll_len hv]; exact hi⟩⟩
  obtain ⟨rfl, y⟩ := y
  have := y vs hH
  exact ⟨.inl rfl, dpAll_get' hv' this⟩
  )]
  intro _ hNoI
  simpa using (fun (_ : NoI.Sg) => hNoI) [5]
theorem jok_tup {a : Addr} {vs : List V} {ds : List D} {F : Hp} (h : SqT K F a vs) (hv : DVs K F vs ds) : JOk K Zc (Itt K a) ds F := by
  refine NoI.keep (fun _ wNoI => ?_) ?_
  simp only [↓ NoI.wrOf wNoI (by
  clear wNoI
  intro i ad H m e M
  have hH : SqT K H a vs := sqT_same Fz_le (sqT_same e h)
  have hv' := dpAll_mono e _ _ hv
  refine ⟨fun hi => ⟨⟨vs, vs[i]'(by rw [dpAll_len hv]; exact hi), hH, List.getElem?_eq_getElem _⟩, fun x H' y => ?_⟩, fun hi => ⟨vs, hH, by rw [dpAll_len hv]; exact hi⟩⟩
  obtain ⟨rfl, y⟩ := y
  have := y vs hH
  exact ⟨.inl rfl, dpAll_get' hv' this⟩
  )]
  intro _ hNoI
  simpa using (fun (_ : NoI.Sg) => hNoI) [5]
def rangeD (lo : Int) (n : Nat) : List D := (List.range n).map fun (i : Nat) => .int (lo + (i : Int))
theorem jok_range {lo : Int} {n : Nat} {F : Hp} : JOk K Zc (Itr lo n) (rangeD lo n) F := by
  refine NoI.keep (fun _ wNoI => ?_) ?_
  simp only [↓ NoI.wrOf wNoI (by
  clear wNoI
  intro i ad H m e M
  refine ⟨fun hi => ⟨show i < n by simpa [rangeD] using hi, fun x H' y => ?_⟩, fun hi => show n ≤ i by simpa [rangeD] using hi⟩
  obtain ⟨rfl, rfl⟩ := y
  have hi : i < n := by simpa [rangeD] using hi
  exact ⟨.inl rfl, _, by simp [rangeD, hi], .int _⟩
  )]
  intro _ hNoI
  simpa using (fun (_ : NoI.Sg) => hNoI) [5]
def strD (z : Str) : List D := z.cps.toList.map fun c => .str ⟨#[c]⟩
theorem jok_str {z : Str} {F : Hp} : JOk K Zc (Its z) (strD z) F := by
  refine NoI.keep (fun _ wNoI => ?_) ?_
  simp only [↓ NoI.wrOf wNoI (by
  clear wNoI
  intro i ad H m e M
  refine ⟨fun hi => ⟨show i < z.cps.size by simpa [strD] using hi, fun x H' y => ?_⟩, fun hi => show z.cps.size ≤ i by simpa [strD] using hi⟩
  obtain ⟨rfl, c, hc, rfl⟩ := y
  exact ⟨.inl rfl, .str ⟨#[c]⟩, by simp [strD, hc], .str _⟩
  )]
  intro _ hNoI
  simpa using (fun (_ : NoI.Sg) => hNoI) [5]
/-- a list or a tuple -/
def iSeq (K : PySem.W.Frag) (te : TE) : TI := fun σ H R => te σ H fun x H1 => (∃ a, x = .ref a ∧ (∃ xs, SqL K H1 a xs) ∧ R (Itl K a) H1) ∨ (∃ a, x = .ref a ∧ (∃ xs, SqT K H1 a xs) ∧ R (Itt K a) H1) ∨ ∃ z, x = .str z ∧ R (Its z) H1
theorem it_range1 {ta : TA} {Ψ : List D → S → Prop} (h : ArS K Zc ta s fun svs s' => ∃ j : Int, svs = [.dat (.int j)] ∧ -(2 ^ 62) ≤ j ∧ j < 2 ^ 62 ∧ Ψ (rangeD 0 j.toNat) s') : IterS K Zc (iRng1 ta) s Ψ := by
  refine NoI.keep (fun _ wNoI => ?_) ?_
  simp only [↓ NoI.wrOf wNoI (by
  clear wNoI
  intro ad H σ R I p
  refine h ad H σ _ I fun vs ad1 H1 svs s1 h1 I1 F1 r1 => ?_
  obtain ⟨j, rfl, b1, b2, k⟩ := h1
  obtain ⟨v, rfl, r⟩ := vrs1 r1
  cases r
  exact ⟨j, rfl, b1, b2, p _ ad1 H1 _ s1 k I1 F1 jok_range⟩
  )]
  intro _ hNoI
  simpa using (fun (_ : NoI.Sg) => hNoI) [5]
theorem it_range2 {ta : TA} {Ψ : List D → S → Prop} (h : ArS K Zc ta s fun svs s' => ∃ i j : Int, svs = [.dat (.int i), .dat (.int j)] ∧ (-(2 ^ 62) ≤ i ∧ i < 2 ^ 62 ∧ -(2 ^ 62) ≤ j ∧ j < 2 ^ 62) ∧ Ψ (rangeD i (j - i).toNat) s') : IterS K Zc (iRng2 ta) s Ψ := by
  refine NoI.keep (fun _ wNoI => ?_) ?_
  simp only [↓ NoI.wrOf wNoI (by
  clear wNoI
  intro ad H σ R I p
  refine h ad H σ _ I fun vs ad1 H1 svs s1 h1 I1 F1 r1 => ?_
  obtain ⟨i, j, rfl, b, k⟩ := h1
  obtain ⟨v, u, rfl, r, r'⟩ := vrs2 r1
  cases r
  cases r'
  exact ⟨i, j, rfl, b, p _ ad1 H1 _ s1 k I1 F1 jok_range⟩
  )]
  intro _ hNoI
  simpa using (fun (_ : NoI.Sg) => hNoI) [5]

/-! ### for -/
theorem FZ.upd_same (M : MR K Zc ad H m) {p : Addr} {o : HO} (hp : H p = none) : Same (FZ Zc ad m H) (FZ Zc ad m (upd H p o)) := (Frm.newT (ad := ad) (m := m) hp).same
/-- what is left to know behind a turn -/
def To (n : Nat) (I : S → Prop) (s : S) : Prop := ∃ s', Wk s s' ∧ n ≤ s'.mem.length ∧ I s'
theorem ex_for {wi : TI} {g : TG} {tb : TS} (hi : IterS K Zc wi s fun items s1 => ∃ I : Nat → S → Prop, To n (I 0) s1 ∧
      (∀ i d s, items[i]? = some d → I i s → n ≤ s.mem.length → GS K Zc g (.dat d) s fun s2 => ExS K Zc n tb s2 { nx := To n (I (i + 1)), ct := To n (I (i + 1)), bk := De.nx, rt := De.rt }) ∧
      (∀ s, I items.length s → n ≤ s.mem.length → De.nx s)) : ExS K Zc n (tFor wi g tb) s De := by
  refine NoI.keep (fun _ wNoI => ?_) ?_
  simp only [↓ NoI.wrOf wNoI (by
  clear wNoI
  intro ad H σ Dd I0 hn k1 k2 k3 k4
  refine hi ad H σ _ I0 fun J ad1 H1 items s1 h1 I1 F1 jok => ?_
  obtain ⟨Inv, h0, hs, hd⟩ := h1
  have G1 := F1.less hn
  have S1 : ∀ {ad2 : List Addr} {H2 : Hp} {s2 : S}, Frm Zc n ad1 s1.mem H1 ad2 s2.mem H2 → Same (FZ Zc ad1 s1.mem H1) (FZ Zc ad2 s2.mem H2) := fun F => F.same
  refine ⟨fun i k σ2 H2 => i + k = items.length ∧ ∃ ad2 s2, Inv i s2 ∧ n ≤ s2.mem.length ∧ SR K Zc ad2 H2 σ2 s2 ∧ Frm Zc n ad1 s1.mem H1 ad2 s2.mem H2, ⟨items.length, by simp, ?_⟩, ?_⟩
  · obtain ⟨s2, w, hl, q⟩ := h0
    exact ⟨ad1, s2, q, hl, I1.wk w, w.frm hl⟩
  · rintro i k σ2 H2 ⟨hk, ad2, s2, q, hl, I2, F2⟩
    obtain ⟨jg, js⟩ := jok i ad2 H2 s2.mem (S1 F2) I2.mr
    have F02 := G1.trans F2 (Nat.le_refl n)
    by_cases hlt : i < items.length
    · obtain ⟨go, yl⟩ := jg hlt
      refine .inr ⟨go, fun σ3 H3 => ∃ ad3 s3, Inv (i + 1) s3 ∧ n ≤ s3.mem.length ∧ SR K Zc ad3 H3 σ3 s3 ∧ Frm Zc n ad1 s1.mem H1 ad3 s3.mem H3, fun σ3 H3 q3 => ⟨k - 1, by omega, by omega, q3⟩, fun x H3 y => ?_⟩
      obtain ⟨hh, d, hd', r⟩ := yl x H3 y
      have I3 : SR K Zc ad2 H3 σ2 s2 := by
        rcases hh with rfl | ⟨p, o, hp, rfl⟩
        · exact I2
        · exact I2.newT hp
      have F3 : Frm Zc n ad1 s1.mem H1 ad2 s2.mem H3 := by
        rcases hh with rfl | ⟨p, o, hp, rfl⟩
        · exact F2
        · exact F2.trans (Frm.newT hp) F2.le
      refine hs i d s2 hd' q hl ad2 H3 σ2 x _ I3 r fun σ4 sl4 h4 I4 => ?_
      have F14 := G1.trans F3 (Nat.le_refl n)
      have nxt : ∀ σ' ad' H' s', To n (Inv (i + 1)) s' → SR K Zc ad' H' σ' s' → Frm Zc n ad2 s2.mem H3 ad' s'.mem H' →
          ∃ ad3 s3, Inv (i + 1) s3 ∧ n ≤ s3.mem.length ∧ SR K Zc ad3 H' σ' s3 ∧ Frm Zc n ad1 s1.mem H1 ad3 s3.mem H' := fun σ' ad' H' s' ⟨s5, w, hl5, q5⟩ I5 F5 =>
        ⟨ad', s5, q5, hl5, I5.wk w, (F3.trans F5 (Nat.le_refl n)).trans (w.frm hl5) (Nat.le_refl n)⟩
      refine h4 ad2 H3 σ4 _ I4 hl (fun σ' ad' H' s' a b c => nxt σ' ad' H' s' a b c) (fun v ad' H' rv m' a b c e => k2 v ad' H' rv m' a b (F14.trans c (Nat.le_refl n)) e)
        (fun σ' ad' H' s' a b c => k1 σ' ad' H' s' a b (F14.trans c (Nat.le_refl n))) (fun σ' ad' H' s' a b c => nxt σ' ad' H' s' a b c)
    · have e : i = items.length := by omega
      exact .inl ⟨js (by omega), k1 σ2 ad2 H2 s2 (hd s2 (e ▸ q) hl) I2 F02⟩
  )]
  intro _ hNoI
  simpa using (fun (_ : NoI.Sg) => hNoI) [5]
theorem ex_while {c : TT} {tb : TS} (I : Nat → S → Prop) (h0 : ∃ k, To n (I k) s)
    (hs : ∀ k s, I k s → n ≤ s.mem.length → TtS K Zc c s fun b s1 => (b = true → ExS K Zc n tb s1 { nx := fun s' => ∃ k', k' < k ∧ To n (I k') s', ct := fun s' => ∃ k', k' < k ∧ To n (I k') s', bk := De.nx, rt := De.rt }) ∧ (b = false → De.nx s1)) :
    ExS K Zc n (tWhile c tb) s De := by
  refine NoI.keep (fun _ wNoI => ?_) ?_
  simp only [↓ NoI.wrOf wNoI (by
  clear wNoI
  intro ad H σ Dd I0 hn k1 k2 k3 k4
  refine ⟨fun k σ2 H2 => ∃ ad2 s2, I k s2 ∧ n ≤ s2.mem.length ∧ SR K Zc ad2 H2 σ2 s2 ∧ Frm Zc n ad s.mem H ad2 s2.mem H2, ?_, ?_⟩
  · obtain ⟨k, s2, w, hl, q⟩ := h0
    exact ⟨k, ad, s2, q, hl, I0.wk w, w.frm hl⟩
  · rintro k σ2 H2 ⟨ad2, s2, q, hl, I2, F2⟩
    refine hs k s2 q hl ad2 H2 σ2 _ I2 fun b ad3 H3 s3 h3 I3 F3 => ?_
    have F3' := F2.trans F3 hl
    cases b with
    | false => exact k1 σ2 ad3 H3 s3 (h3.2 rfl) I3 F3'
    | true =>
      have nxt : ∀ σ' ad' H' s', (∃ k', k' < k ∧ To n (I k') s') → SR K Zc ad' H' σ' s' → Frm Zc n ad3 s3.mem H3 ad' s'.mem H' →
          ∃ k', k' < k ∧ ∃ ad4 s4, I k' s4 ∧ n ≤ s4.mem.length ∧ SR K Zc ad4 H' σ' s4 ∧ Frm Zc n ad s.mem H ad4 s4.mem H' := fun σ' ad' H' s' ⟨k', hk, s5, w, hl5, q5⟩ I5 F5 =>
        ⟨k', hk, ad', s5, q5, hl5, I5.wk w, (F3'.trans F5 (Nat.le_refl n)).trans (w.frm hl5) (Nat.le_refl n)⟩
      exact ⟨fun σ' H' => ∃ k', k' < k ∧ ∃ ad4 s4, I k' s4 ∧ n ≤ s4.mem.length ∧ SR K Zc ad4 H' σ' s4 ∧ Frm Zc n ad s.mem H ad4 s4.mem H', fun σ' H' z => z,
        h3.1 rfl ad3 H3 σ2 _ I3 F3'.le (fun σ' ad' H' s' a b c => nxt σ' ad' H' s' a b c) (fun v ad' H' rv m' a b c e => k2 v ad' H' rv m' a b (F3'.trans c (Nat.le_refl n)) e)
          (fun σ' ad' H' s' a b c => k1 σ' ad' H' s' a b (F3'.trans c (Nat.le_refl n))) (fun σ' ad' H' s' a b c => nxt σ' ad' H' s' a b c)⟩
  )]
  intro _ hNoI
  simpa using (fun (_ : NoI.Sg) => hNoI) [5]

/-! ### comprehensions -/
def wipeS (sl : List SV) : List Nat → List SV
  | [] => sl
  | v :: vs => (wipeS sl vs).set v .un
theorem sr_wipe1 {sl : List SV} {i : Nat} (h : SR K Zc ad H σ ⟨sl, m⟩) : SR K Zc ad H (σ.set i none) ⟨sl.set i .un, m⟩ := by
  refine NoI.keep (fun _ wNoI => ?_) ?_
  simp only [↓ NoI.wrOf wNoI (by
  clear wNoI
  refine ⟨by simpa using h.len, fun j tv q => ?_, h.mr⟩
  have q : (sl.set i SV.un)[j]? = some tv := q
  rw [List.getElem?_set] at q
  rw [List.getElem?_set]
  have hl : σ.length = sl.length := h.len
  by_cases e : i = j
  · rw [if_pos e] at q ⊢
    split at q
    · cases q
      exact ⟨none, by rw [if_pos (by omega)], .inl rfl⟩
    · cases q
  · rw [if_neg e] at q ⊢
    exact h.slot j tv q
  )]
  intro _ hNoI
  simpa using (fun (_ : NoI.Sg) => hNoI) [5]
theorem sr_wipe {sl : List SV} (h : SR K Zc ad H σ ⟨sl, m⟩) : ∀ vs, SR K Zc ad H (wipe σ vs) ⟨wipeS sl vs, m⟩
  | [] => h
  | v :: vs => sr_wipe1 (sr_wipe h vs)
/-- the slots of a comprehension are forgotten: the rest stands as ahead of it -/
theorem sr_unwipe {sl : List SV} {vs : List Nat} (h : SR K Zc ad H (wipe σ vs) ⟨sl, m⟩) : SR K Zc ad H σ ⟨wipeS sl vs, m⟩ := by
  refine NoI.keep (fun _ wNoI => ?_) ?_
  simp only [↓ NoI.wrOf wNoI (by
  clear wNoI
  have h2 := sr_wipe h vs
  refine ⟨by have := h2.len; simpa [wipe_length] using this, fun j sv q => ?_, h.mr⟩
  obtain ⟨o, e1, e2⟩ := h2.slot j sv q
  rcases e2 with rfl | ⟨v, rfl, r⟩
  · have hj : j < (wipe (wipe σ vs) vs).length := (List.getElem?_eq_some_iff.mp e1).1
    rw [wipe_length, wipe_length] at hj
    exact ⟨σ[j], List.getElem?_eq_getElem hj, .inl rfl⟩
  · exact ⟨some v, (wipe_some (wipe_some e1).1).1, .inr ⟨v, rfl, r⟩⟩
  )]
  intro _ hNoI
  simpa using (fun (_ : NoI.Sg) => hNoI) [5]
/-- a target of a comprehension stores into its own slots alone -/
def GW (g : TG) (vs : List Nat) : Prop := ∀ v σ H (Q : L2.St → Hp → Prop), g v σ H (fun σ' H' => wipe σ' vs = wipe σ vs → Q σ' H') → g v σ H Q
theorem gw_name {i : Nat} : GW (gName i) [i] := by
  intro v σ H Q h
  refine h ?_
  show (σ.set i (some v)).set i none = σ.set i none
  rw [List.set_set]
theorem wipe_set {i : Nat} {x : Option V} {σ : L2.St} : ∀ {vs : List Nat}, i ∈ vs → wipe (σ.set i x) vs = wipe σ vs
  | [], h => by simp at h
  | v :: vs, h => by
    show (wipe (σ.set i x) vs).set v none = (wipe σ vs).set v none
    by_cases e : i ∈ vs
    · rw [wipe_set e]
    · have ev : i = v := by
        rcases List.mem_cons.mp h with q | q
        · exact q
        · exact absurd q e
      subst ev
      have : ∀ {ws : List Nat}, i ∉ ws → wipe (σ.set i x) ws = (wipe σ ws).set i x := by
        intro ws
        induction ws with
        | nil => intro _; rfl
        | cons w ws ih =>
          intro hn
          show (wipe (σ.set i x) ws).set w none = ((wipe σ ws).set w none).set i x
          rw [ih fun z => hn (List.mem_cons_of_mem _ z)]
          exact List.set_comm _ _ fun z => hn (z ▸ List.mem_cons_self)
      rw [this e, List.set_set]
theorem gw_pair {K' : PySem.W.Frag} {n i j : Nat} {vs : List Nat} (hi : i ∈ vs) (hj : j ∈ vs) : GW (gTup K' n (gCons (gName i) (gCons (gName j) gNil))) vs := by
  refine NoI.keep (fun _ wNoI => ?_) ?_
  simp only [↓ NoI.wrOf wNoI (by
  clear wNoI
  intro v σ H Q h
  obtain ⟨a, xs, e, q1, q2, x, r, e2, y, r2, e3, e4, q3⟩ := h
  refine ⟨a, xs, e, q1, q2, x, r, e2, y, r2, e3, e4, q3 ?_⟩
  rw [wipe_set hj, wipe_set hi]
  )]
  intro _ hNoI
  simpa using (fun (_ : NoI.Sg) => hNoI) [5]
theorem tt_yes {Ψ : Bool → S → Prop} (h : Ψ true s) : TtS K Zc tYes s Ψ := fun ad H σ Q I p => p true ad H s h I (.refl (Nat.le_refl _))
theorem ev_lc {wi : TI} {g : TG} {tt : TT} {te : TE} {vs : List Nat} (hw : GW g vs)
    (hi : IterS K Zc wi s fun items s1 => ∃ I : Nat → S → Prop, I 0 ⟨wipeS s1.sl vs, s1.mem ++ [some (.list [])]⟩ ∧
      (∀ i d s, items[i]? = some d → I i s → s1.mem.length < s.mem.length → GS K Zc g (.dat d) s fun s2 => TtS K Zc tt s2 fun b s3 =>
        (b = true → EvS K Zc te s3 (asD fun y s4 => ∃ acc, s4.mem[s1.mem.length]? = some (some (.list acc)) ∧ acc.length < sizeLine ∧ To (s1.mem.length + 1) (I (i + 1)) ⟨wipeS s4.sl vs, s4.mem.set s1.mem.length (some (.list (acc ++ [y])))⟩)) ∧
        (b = false → To (s1.mem.length + 1) (I (i + 1)) ⟨wipeS s3.sl vs, s3.mem⟩)) ∧
      (∀ s, I items.length s → Φ (.own s1.mem.length) ⟨wipeS s.sl vs, s.mem⟩)) : EvS K Zc (tLc wi g tt te vs) s Φ := by
  refine NoI.keep (fun _ wNoI => ?_) ?_
  simp only [↓ NoI.wrOf wNoI (by
  clear wNoI
  intro ad H σ Q I0 p
  refine hi ad H σ _ I0 fun J ad1 H1 items s1 h1 I1 F1 jok D hD => ?_
  obtain ⟨Inv, h0, hs, hd⟩ := h1
  have p1 := p.step F1
  have F1D : Frm Zc s1.mem.length ad1 s1.mem H1 (adN ad1 s1.mem D) (s1.mem ++ [some (.list [])]) (upd H1 D (.lst [])) := Frm.newO I1.mr hD
  have atD : (adN ad1 s1.mem D)[s1.mem.length]? = some D := adN_at I1.mr.adl
  -- from the state with the list's cell on
  refine ⟨fun i k H2 => i + k = items.length ∧ ∃ ad2 s2, Inv i s2 ∧ s1.mem.length < s2.mem.length ∧ SR K Zc ad2 H2 (wipe σ vs) s2 ∧ Frm Zc (s1.mem.length + 1) (adN ad1 s1.mem D) (s1.mem ++ [some (.list [])]) (upd H1 D (.lst [])) ad2 s2.mem H2, ⟨items.length, by simp, ?_⟩, ?_⟩
  · exact ⟨_, _, h0, by simp, sr_wipe (I1.newO (ds := .list []) hD (.lst .nil)) vs, .refl (by simp)⟩
  · rintro i k H2 ⟨hk, ad2, s2, q, hl, I2, F2⟩
    obtain ⟨jg, js⟩ := jok i ad2 H2 s2.mem (F1D.same.trans F2.same) I2.mr
    have aD2 : ad2[s1.mem.length]? = some D := by rw [F2.pre _ (Nat.lt_succ_self _), atD]
    by_cases hlt : i < items.length
    · obtain ⟨go, yl⟩ := jg hlt
      refine .inr ⟨go, fun H3 => ∃ ad3 s3, Inv (i + 1) s3 ∧ s1.mem.length < s3.mem.length ∧ SR K Zc ad3 H3 (wipe σ vs) s3 ∧ Frm Zc (s1.mem.length + 1) (adN ad1 s1.mem D) (s1.mem ++ [some (.list [])]) (upd H1 D (.lst [])) ad3 s3.mem H3, fun H3 q3 => ⟨k - 1, by omega, by omega, q3⟩, fun x H3 y => ?_⟩
      obtain ⟨hh, d, hd', r⟩ := yl x H3 y
      have I3 : SR K Zc ad2 H3 (wipe σ vs) s2 := by
        rcases hh with rfl | ⟨p, o, hp, rfl⟩
        · exact I2
        · exact I2.newT hp
      have F3 : Frm Zc (s1.mem.length + 1) (adN ad1 s1.mem D) (s1.mem ++ [some (.list [])]) (upd H1 D (.lst [])) ad2 s2.mem H3 := by
        rcases hh with rfl | ⟨p, o, hp, rfl⟩
        · exact F2
        · exact F2.trans (Frm.newT hp) F2.le
      refine hw x _ H3 _ (hs i d s2 hd' q hl ad2 H3 (wipe σ vs) x _ I3 r fun σ4 sl4 h4 I4 hσ => ?_)
      have hσ' : wipe σ4 vs = wipe σ vs := by
        rw [hσ]
        have : ∀ ws : List Nat, (∀ w ∈ ws, w ∈ vs) → wipe (wipe σ vs) ws = wipe σ vs := by
          intro ws hws
          induction ws with
          | nil => rfl
          | cons w ws ih =>
            show (wipe (wipe σ vs) ws).set w none = wipe σ vs
            rw [ih fun z hz => hws z (List.mem_cons_of_mem _ hz)]
            have hm := hws w List.mem_cons_self
            apply List.ext_getElem?
            intro t
            rw [List.getElem?_set]
            by_cases e : w = t
            · subst e
              rw [if_pos rfl]
              split
              · rename_i ht
                cases z : (wipe σ vs)[w]? with
                | none => rw [List.getElem?_eq_none_iff] at z; omega
                | some o =>
                  cases o with
                  | none => rfl
                  | some x => exact absurd hm (wipe_some z).2
              · rename_i ht
                rw [List.getElem?_eq_none_iff.mpr (by omega)]
            · rw [if_neg e]
        exact this vs fun _ h => h
      refine ⟨hσ', h4 ad2 H3 σ4 _ I4 fun b ad5 H5 s5 h5 I5 F5 => ?_⟩
      have F5' := F3.trans F5 F3.le
      cases b with
      | false =>
        show ∃ ad3 s3, _
        obtain ⟨s6, w6, hl6, q6⟩ := h5.2 rfl
        have I6 := sr_wipe (sl := s5.sl) (m := s5.mem) I5 vs
        rw [hσ'] at I6
        exact ⟨ad5, s6, q6, hl6, I6.wk w6, F5'.trans (w6.frm hl6) (Nat.le_refl _)⟩
      | true =>
        show te σ4 H5 _
        refine ev_asD (Φ := fun sv s4 => ∃ y, sv = .dat y ∧ ∃ acc, s4.mem[s1.mem.length]? = some (some (.list acc)) ∧ acc.length < sizeLine ∧ To (s1.mem.length + 1) (Inv (i + 1)) ⟨wipeS s4.sl vs, s4.mem.set s1.mem.length (some (.list (acc ++ [y])))⟩) (h5.1 rfl) (fun d s' z => ⟨d, rfl, z⟩) ad5 H5 σ4 _ I5 ?_
        intro v ad6 H6 sv s6 h6 I6 F6 r6
        obtain ⟨y, rfl, acc, e6, hz, s7, w7, hl7, q7⟩ := h6
        have F6' := F5'.trans F6 F5'.le
        have aD6 : ad6[s1.mem.length]? = some D := by rw [F6'.pre _ (Nat.lt_succ_self _), atD]
        obtain ⟨D', ou, e1, e2, e3⟩ := I6.mr.cell _ _ e6
        rw [aD6] at e1; cases e1
        obtain ⟨us, rfl, e4⟩ : ∃ us, ou = .lst us ∧ DVs K (FZ Zc ad6 s6.mem H6) us acc := by
          cases e3 with
          | lst e3 => exact ⟨_, rfl, e3⟩
        refine ⟨us, e2, by rw [dpAll_len e4]; exact hz, ?_⟩
        have I7 := sr_wipe (sl := s6.sl) (m := s6.mem.set s1.mem.length (some (.list (acc ++ [y])))) (I6.put e6 aD6 (.lst (dpAll_append e4 (.cons r6 .nil)))) vs
        rw [hσ'] at I7
        exact ⟨ad6, s7, q7, hl7, I7.wk w7, (F6'.trans (Frm.put e6 aD6) F6'.le).trans (w7.frm hl7) (Nat.le_refl _)⟩
    · have e : i = items.length := by omega
      refine .inl ⟨js (by omega), ?_⟩
      have F := F1D.trans F2 (by simp)
      refine p1 _ ad2 H2 (.own s1.mem.length) ⟨wipeS s2.sl vs, s2.mem⟩ (hd s2 (e ▸ q)) (sr_unwipe I2) F ⟨hl, D, aD2, rfl⟩
  )]
  intro _ hNoI
  simpa using (fun (_ : NoI.Sg) => hNoI) [5]
end
end SH

namespace SH
open PySem PySem.Spec PyProof.Rows L2
variable [WW]

/-! ### walks of a list, a tuple or a text -/
theorem pi_seq {X : Cx} {tg e : Expr} {te : TE} (he : PE X e te) : PI X tg e (iSeq X.K te) := by
  refine NoI.keep (fun _ wNoI => ?_) ?_
  simp only [↓ NoI.wrOf wNoI (by
  clear wNoI
  refine ⟨fun pins s σ H R I h => thn (he.run pins s σ H _ I h) ?_⟩
  rintro v s1 ⟨x, H1, J, r1, q1⟩
  rcases q1 with ⟨a, rfl, ⟨xs, hq⟩, q⟩ | ⟨a, rfl, ⟨xs, hq⟩, q⟩ | ⟨z, rfl, q⟩
  · cases r1
    obtain ⟨its, rv, p, hz⟩ := J.list hq
    exact wpAny_pyIter_list p.isList (pi_one J _ (turn_list a _) ⟨_, Heap.get?_push_size _ rfl, rfl, rfl⟩ q)
  · cases r1
    obtain ⟨its, rv, p, hz⟩ := J.tuple hq
    exact wpAny_pyIter_tuple p (pi_one J _ (turn_tuple a _) ⟨_, Heap.get?_push_size _ rfl, rfl, rfl⟩ q)
  · obtain ⟨t, rfl⟩ := r1
    cases ha : z.cps.all (· < 128)
    · exact wpAny_pyIter_wide ha (pi_one J _ (turn_str _ z t "str_iterator" (.inr rfl)) ⟨_, Heap.get?_push_size _ rfl, rfl, rfl⟩ q)
    · exact wpAny_pyIter_ascii ha (pi_one J _ (turn_str _ z t "str_ascii_iterator" (.inl rfl)) ⟨_, Heap.get?_push_size _ rfl, rfl, rfl⟩ q)
  )]
  intro _ hNoI
  simpa using (fun (_ : NoI.Sg) => hNoI) [5]
/-- the items of what is walked -/
def itemsD : D → Option (List D)
  | .list ds => some ds
  | .tuple ds => some ds
  | .str z => some (strD z)
  | _ => none
section
variable {K : PySem.W.Frag} {Zc : Addr → Prop} {s : S} {x y : SV} {Φ : SV → S → Prop} {n : Nat} {De : DE}
theorem it_seq {te : TE} {Ψ : List D → S → Prop} (h : EvS K Zc te s (asD fun d s' => ∃ ds, itemsD d = some ds ∧ Ψ ds s')) : IterS K Zc (iSeq K te) s Ψ := by
  refine NoI.keep (fun _ wNoI => ?_) ?_
  simp only [↓ NoI.wrOf wNoI (by
  clear wNoI
  intro ad H σ R I p
  refine ev_asD (Φ := fun sv s' => ∃ d ds, sv = .dat d ∧ itemsD d = some ds ∧ Ψ ds s') h (fun d s' ⟨ds, e, k⟩ => ⟨d, ds, rfl, e, k⟩) ad H σ _ I fun v ad1 H1 sv s1 h1 I1 F1 r1 => ?_
  obtain ⟨d, ds, rfl, e, k⟩ := h1
  cases d with
  | list es =>
    cases e
    obtain ⟨a, vs, rfl, h2, h3⟩ := lst_of r1
    exact .inl ⟨a, rfl, ⟨vs, SqL.of (Fz_at h2)⟩, p _ ad1 H1 ds s1 k I1 F1 (jok_list h2 h3)⟩
  | tuple es =>
    cases e
    obtain ⟨a, vs, rfl, h2, h3⟩ := tup_of r1
    exact .inr (.inl ⟨a, rfl, ⟨vs, sqT_same Fz_le h2⟩, p _ ad1 H1 ds s1 k I1 F1 (jok_tup h2 h3)⟩)
  | str z =>
    cases e
    cases r1
    exact .inr (.inr ⟨z, rfl, p _ ad1 H1 _ s1 k I1 F1 jok_str⟩)
  | none => cases e
  | bool _ => cases e
  | int _ => cases e
  | dict _ => cases e
  )]
  intro _ hNoI
  simpa using (fun (_ : NoI.Sg) => hNoI) [5]

/-! ### truth -/
def tTru (K : PySem.W.Frag) (ta : TE) : TT := fun σ H Q => ta σ H fun x H' => ∃ k, TruV K x H' k ∧ Q k H'
theorem pt_tru {X : Cx} {a : Expr} {ta : TE} (ha : PE X a ta) (he : ∀ whole, isTrue a X.env whole = (do let v ← whole; standAt a.pos; holding [v] (truthy v)) := by intro _; rfl) : PT X a (tTru X.K ta) := pt_truth ha he
def truD : D → Option Bool
  | .none => some false
  | .bool b => some b
  | .int i => some (i != 0)
  | .str z => some ((z.length : Int) != 0)
  | .list ds => some (!ds.isEmpty)
  | .tuple ds => some (!ds.isEmpty)
  | .dict _ => none
theorem dvs_empty {H : Hp} {vs : List V} {ds : List D} (h : DVs K H vs ds) : vs.isEmpty = ds.isEmpty := by cases h <;> rfl
theorem tt_tru {te : TE} {Ψ : Bool → S → Prop} (h : EvS K Zc te s fun sv s' => ∃ d b, rd s'.mem sv = some d ∧ truD d = some b ∧ (∀ z, d = .str z → z.length ≤ sizeLine) ∧ Ψ b s') : TtS K Zc (tTru K te) s Ψ := by
  refine NoI.keep (fun _ wNoI => ?_) ?_
  simp only [↓ NoI.wrOf wNoI (by
  clear wNoI
  intro ad H σ Q I p
  refine h ad H σ _ I fun v ad1 H1 sv s1 h1 I1 F1 r1 => ?_
  obtain ⟨d, b, e, t, hz, k⟩ := h1
  refine ⟨b, ?_, p b ad1 H1 s1 k I1 F1⟩
  have hd := rd_D I1.mr r1 e
  cases d with
  | none => cases t; cases hd; rfl
  | bool c => cases t; cases hd; rfl
  | int i => cases t; cases hd; rfl
  | str z => cases t; cases hd; exact ⟨hz z rfl, rfl⟩
  | list ds =>
    cases t
    cases hd with
    | lst h1 h2 => exact .inl ⟨_, SqL.of h1, by rw [dvs_empty h2]⟩
  | tuple ds =>
    cases t
    cases hd with
    | tup h1 h2 => exact .inr (.inl ⟨_, h1.sq, by rw [dvs_empty h2]⟩)
  | dict _ => cases t
  )]
  intro _ hNoI
  simpa using (fun (_ : NoI.Sg) => hNoI) [5]

/-! ### stores into a cell -/
theorem pget_list {X : Cx} : PGet X (rIxL X.K) := by
  refine NoI.keep (fun _ wNoI => ?_) ?_
  simp only [↓ NoI.wrOf wNoI (by
  clear wNoI
  intro pins s σ H o i ov iv Q I ro ri h
  obtain ⟨p, xs, k, v, rfl, rfl, hq, he, q⟩ := h
  cases ro
  obtain ⟨t, rfl⟩ := ri
  obtain ⟨its, r, pl, hz⟩ := I.list hq
  obtain ⟨j, h1, h2, h3, h4, h5⟩ := atI_get he
  obtain ⟨u, eu, ru⟩ := r.get h2
  have hl := r.length
  have hn := line63
  by_cases h0 : 0 ≤ k
  · have hj : k.toNat = j := Option.some.inj ((seqIndex_of h0 h5).symm.trans h1)
    exact wpAny_getItem_list pl.isList h0 (by omega) (by rw [hj]; simpa using eu) ⟨v, H, I, ru, q⟩
  · have hj : (k + (its.toArray.size : Int)).toNat = j := by
      rw [seqIndex_neg (by omega) h4] at h1
      rw [List.size_toArray, ← hl]
      exact Option.some.inj h1
    exact wpAny_getItem_list_neg pl.isList (by omega) (by rw [List.size_toArray] <;> omega) (by omega) (by rw [hj]; simpa using eu) ⟨v, H, I, ru, q⟩
  )]
  intro _ hNoI
  simpa using (fun (_ : NoI.Sg) => hNoI) [5]
/-- xs[i] = e -/
theorem ex_put {te to ti : TE} (h : EvS K Zc te s (asD fun d s1 => EvS K Zc to s1 fun o s2 => EvS K Zc ti s2 fun i s3 => ∃ j ds k idx, o = .own j ∧ i = .dat (.int k) ∧ s3.mem[j]? = some (some (.list ds)) ∧ ixN ds.length k = some idx ∧ De.nx ⟨s3.sl, s3.mem.set j (some (.list (ds.set idx d)))⟩)) :
    ExS K Zc n (tAsg te (gSub to ti rSetL)) s De := by
  refine NoI.keep (fun _ wNoI => ?_) ?_
  simp only [↓ NoI.wrOf wNoI (by
  clear wNoI
  intro ad H σ Dd I hn k1 k2 k3 k4
  refine ev_asD (Φ := fun sv s1 => ∃ d, sv = .dat d ∧ EvS K Zc to s1 fun o s2 => EvS K Zc ti s2 fun i s3 => ∃ j ds k idx, o = .own j ∧ i = .dat (.int k) ∧ s3.mem[j]? = some (some (.list ds)) ∧ ixN ds.length k = some idx ∧ De.nx ⟨s3.sl, s3.mem.set j (some (.list (ds.set idx d)))⟩) h (fun d s' z => ⟨d, rfl, z⟩) ad H σ _ I fun v ad1 H1 sv s1 h1 I1 F1 r1 => ?_
  obtain ⟨d, rfl, h1⟩ := h1
  refine h1 ad1 H1 σ _ I1 fun o ad2 H2 so s2 h2 I2 F2 r2 => h2 ad2 H2 σ _ I2 fun i ad3 H3 si s3 h3 I3 F3 r3 => ?_
  obtain ⟨j, ds, k, idx, rfl, rfl, e, hx, q⟩ := h3
  cases r3
  obtain ⟨a, us, rfl, ha, hH, hd⟩ := own_at I3.mr (r2.frm F3) e
  have hv := (r1.frm F2).frm F3
  refine ⟨a, us, k, idx, rfl, rfl, hH, by rw [dpAll_len hd]; exact hx, ?_⟩
  exact k1 σ ad3 _ _ q (I3.put e ha (.lst (dpAll_set hv idx hd))) ((((F1.trans F2 F1.le).trans F3 (Nat.le_trans F1.le F2.le)).trans (Frm.put e ha) (Nat.le_trans F1.le (Nat.le_trans F2.le F3.le))).less hn)
  )]
  intro _ hNoI
  simpa using (fun (_ : NoI.Sg) => hNoI) [5]
/-- xs[i] op= e of ints -/
theorem ex_augS {to ti te : TE} {f : Int → Int → Int} (h : EvS K Zc to s fun o s1 => EvS K Zc ti s1 fun i s2 => ∃ j ds k a, o = .own j ∧ i = .dat (.int k) ∧ s2.mem[j]? = some (some (.list ds)) ∧ atI ds k = some (.int a) ∧
      EvS K Zc te s2 fun y s3 => ∃ b idx es, rd s3.mem y = some (.int b) ∧ s3.mem[j]? = some (some (.list es)) ∧ ixN es.length k = some idx ∧ De.nx ⟨s3.sl, s3.mem.set j (some (.list (es.set idx (.int (f a b)))))⟩) : ExS K Zc n (tAugS to ti te (rIxL K) (ipI f) rSetL) s De := by
  refine NoI.keep (fun _ wNoI => ?_) ?_
  simp only [↓ NoI.wrOf wNoI (by
  clear wNoI
  intro ad H σ Dd I hn k1 k2 k3 k4
  refine h ad H σ _ I fun o ad1 H1 so s1 h1 I1 F1 r1 => h1 ad1 H1 σ _ I1 fun i ad2 H2 si s2 h2 I2 F2 r2 => ?_
  obtain ⟨j, ds, k, a, rfl, rfl, e, he, h2⟩ := h2
  obtain ⟨p, us, rfl, ha, hH, hd⟩ := own_at I2.mr (r1.frm F2) e
  cases r2
  obtain ⟨v, q1, q2⟩ := atI_dvs hd he
  cases q2
  refine ⟨p, us, k, .int a, rfl, rfl, SqL.of hH, q1, ?_⟩
  refine h2 ad2 H2 σ _ I2 fun y ad3 H3 sy s3 h3 I3 F3 r3 => ?_
  obtain ⟨b, idx, es, hb, e5, hx, q⟩ := h3
  refine ⟨a, b, rfl, rd_int I3.mr r3 hb, ?_⟩
  obtain ⟨p', us', e6, ha', hH', hd'⟩ := own_at I3.mr ((r1.frm F2).frm F3) e5
  cases e6
  refine ⟨p, us', k, idx, rfl, rfl, hH', by rw [dpAll_len hd']; exact hx, ?_⟩
  exact k1 σ ad3 _ _ q (I3.put e5 ha' (.lst (dpAll_set (.int _) idx hd'))) ((((F1.trans F2 F1.le).trans F3 (Nat.le_trans F1.le F2.le)).trans (Frm.put e5 ha') (Nat.le_trans F1.le (Nat.le_trans F2.le F3.le))).less hn)
  )]
  intro _ hNoI
  simpa using (fun (_ : NoI.Sg) => hNoI) [5]
theorem ex_aug {i : Nat} {te : TE} {f : Int → Int → Int} {a : Int} (hi : s.sl[i]? = some (.dat (.int a))) (h : EvS K Zc te s fun y s1 => ∃ b, rd s1.mem y = some (.int b) ∧ De.nx ⟨s1.sl.set i (.dat (.int (f a b))), s1.mem⟩) : ExS K Zc n (tAug i te (ipI f)) s De := by
  refine NoI.keep (fun _ wNoI => ?_) ?_
  simp only [↓ NoI.wrOf wNoI (by
  clear wNoI
  intro ad H σ Dd I hn k1 k2 k3 k4
  obtain ⟨o, e, r⟩ := I.slot i _ hi
  obtain ⟨v, ev, r2⟩ := r.resolve_left (by intro z; cases z)
  subst ev
  have hv : v = .int a := by
    cases (show DV _ _ v (.int a) from r2)
    rfl
  subst hv
  refine ⟨_, e, h ad H σ _ I fun y ad1 H1 sy s1 h1 I1 F1 r1 => ?_⟩
  obtain ⟨b, hb, q⟩ := h1
  exact ⟨a, b, rfl, rd_int I1.mr r1 hb, k1 _ ad1 H1 _ q (I1.set (sv := .dat (.int (f a b))) (.int _)) (F1.less hn)⟩
  )]
  intro _ hNoI
  simpa using (fun (_ : NoI.Sg) => hNoI) [5]
theorem ex_par {i j : Nat} {ta : TA} (h : ArS K Zc ta s fun svs s1 => ∃ x y, svs = [x, y] ∧ De.nx ⟨(s1.sl.set i x).set j y, s1.mem⟩) : ExS K Zc n (tPar i j ta) s De := by
  refine NoI.keep (fun _ wNoI => ?_) ?_
  simp only [↓ NoI.wrOf wNoI (by
  clear wNoI
  intro ad H σ Dd I hn k1 k2 k3 k4
  refine h ad H σ _ I fun vs ad1 H1 svs s1 h1 I1 F1 r1 => ?_
  obtain ⟨x, y, rfl, q⟩ := h1
  obtain ⟨v, u, rfl, rx, ry⟩ := vrs2 r1
  exact ⟨v, u, rfl, k1 _ ad1 H1 _ q ((I1.set rx).set (s := ⟨s1.sl.set i x, s1.mem⟩) ry) (F1.less hn)⟩
  )]
  intro _ hNoI
  simpa using (fun (_ : NoI.Sg) => hNoI) [5]
theorem vrs3 {ad : List Addr} {m : Mem} {H : Hp} {vs : List V} {x y z : SV} (h : VRs K Zc ad m H vs [x, y, z]) : ∃ v u w, vs = [v, u, w] ∧ VR K Zc ad m H v x ∧ VR K Zc ad m H u y ∧ VR K Zc ad m H w z := by
  refine NoI.keep (fun _ wNoI => ?_) ?_
  simp only [↓ NoI.wrOf wNoI (by
  clear wNoI
  match vs, h with
  | [v, u, w], h => exact ⟨v, u, w, rfl, h.1, h.2.1, h.2.2.1⟩
  | [], h => exact h.elim
  | [_], h => exact h.2.elim
  | [_, _], h => exact h.2.2.elim
  | _ :: _ :: _ :: _ :: _, h => exact h.2.2.2.elim
  )]
  intro _ hNoI
  simpa using (fun (_ : NoI.Sg) => hNoI) [5]
theorem ex_par3 {i j k : Nat} {ta : TA} (h : ArS K Zc ta s fun svs s1 => ∃ x y z, svs = [x, y, z] ∧ De.nx ⟨((s1.sl.set i x).set j y).set k z, s1.mem⟩) : ExS K Zc n (tPar3 i j k ta) s De := by
  refine NoI.keep (fun _ wNoI => ?_) ?_
  simp only [↓ NoI.wrOf wNoI (by
  clear wNoI
  intro ad H σ Dd I hn k1 k2 k3 k4
  refine h ad H σ _ I fun vs ad1 H1 svs s1 h1 I1 F1 r1 => ?_
  obtain ⟨x, y, z, rfl, q⟩ := h1
  obtain ⟨v, u, w, rfl, rx, ry, rz⟩ := vrs3 r1
  exact ⟨v, u, w, rfl, k1 _ ad1 H1 _ q (((I1.set rx).set (s := ⟨s1.sl.set i x, s1.mem⟩) ry).set (s := ⟨(s1.sl.set i x).set j y, s1.mem⟩) rz) (F1.less hn)⟩
  )]
  intro _ hNoI
  simpa using (fun (_ : NoI.Sg) => hNoI) [5]
end
/-! ### a def of the text, known by its name -/
def Cal (P : Program) (K : PySem.W.Frag) (mg : Str → Option Value) (base : Heap) (k : Nat) (x : Str) (ps : List Str) (C : Ct) : Prop :=
  ∃ f fd, FnG P WW.w K mg base CX0 k f fd ps (spP K C) ∧ Binds K fd ps [] ∧ mg x = some (.ref f) ∧ PySem.W.keepIn K (.ref f) = true
theorem pe_callC {X : Cx} {k : Nat} {x : Str} {ps : List Str} {C : Ct} {p pos : Pos} {e : Expr} {es : List Expr} {t : TA} (c : @Cal ⟨X.w⟩ X.prog X.K X.mg X.base k x ps C) (hG : X.A.guards = some []) (hr : Room k X.A) (hg : Gl X x) (ha : PA X (e :: es) t)
    (hdb : (x == ("__debug__" : Str)) = false := by decide) (he : starEach (e :: es) X.env = (false, eval e X.env) :: starEach es X.env := by rfl) (hpl : (backTo pos (starEach es X.env)).any (·.1) = false := by rfl) : PE X (.Call (.Name x p) (e :: es) [] pos) (tCall (@spP ⟨X.w⟩ X.K C) [] E0 t) := by
  obtain ⟨f, fd, F, b, m, kp⟩ := c
  exact pe_callG F hG hr hg m kp b .nil pass0 ha hdb he hpl
end SH

namespace SH
open PySem PySem.Spec PyProof.Rows L2 HT
variable [WW]

section
variable {prog : Program} {w : World} {A : Around} {E : Value → Shared → Prop} {s : Shared}
end
end SH

namespace SH
open PySem PySem.Spec PyProof.Rows L2
variable [WW]

/-! ### the remaining constructs -/
def rJoin (K : PySem.W.Frag) : V → List V → Hp → VK → Prop := fun x xs H Q => ∃ a p, ∃ ys : List Str, x = .str a ∧ xs = [.ref p] ∧ (SqL K H p (ys.map V.str) ∨ SqT K H p (ys.map V.str)) ∧ (ys.map (·.length)).sum + ys.length * a.length ≤ 16777216 ∧ Q (.str (Txt.join a ys)) H
section
variable {K : PySem.W.Frag} {Zc : Addr → Prop} {s : S} {x y : SV} {Φ : SV → S → Prop} {n : Nat} {De : DE}
theorem ev_join {to te : TE} (h : EvS K Zc to s fun x s1 => ∃ a, rd s1.mem x = some (.str a) ∧ EvS K Zc te s1 fun y s2 => ∃ ys : List Str, (rd s2.mem y = some (.list (ys.map PyData.str)) ∨ rd s2.mem y = some (.tuple (ys.map PyData.str))) ∧ (ys.map (·.length)).sum + ys.length * a.length ≤ 16777216 ∧ Φ (.dat (.str (Txt.join a ys))) s2) :
    EvS K Zc (tM1 (rJoin K) to te) s Φ := by
  refine NoI.keep (fun _ wNoI => ?_) ?_
  simp only [↓ NoI.wrOf wNoI (by
  clear wNoI
  intro ad H σ Q I p
  refine h ad H σ _ I fun v ad1 H1 x s1 h1 I1 F1 r1 => ?_
  obtain ⟨a, e, h1⟩ := h1
  have := rd_str I1.mr r1 e
  subst this
  refine ⟨⟨a, rfl⟩, h1 ad1 H1 σ _ I1 fun u ad2 H2 y s2 h2 I2 F2 r2 => ?_⟩
  obtain ⟨ys, hy, hz, k⟩ := h2
  rcases hy with hy | hy
  · obtain ⟨b, us, rfl, e1, d1⟩ := rd_lst I2.mr r2 hy
    rw [dpAll_strs d1] at e1
    exact ⟨a, b, ys, rfl, rfl, .inl (SqL.of e1), hz, ((p.step F1).step F2).val I2 k (.str _)⟩
  · obtain ⟨b, us, rfl, e1, d1⟩ := rd_tup I2.mr r2 hy
    rw [dpAll_strs d1] at e1
    exact ⟨a, b, ys, rfl, rfl, .inr e1, hz, ((p.step F1).step F2).val I2 k (.str _)⟩
  )]
  intro _ hNoI
  simpa using (fun (_ : NoI.Sg) => hNoI) [5]
theorem ev_andV {ta tb : TE} (h : EvS K Zc ta s fun x s1 => ∃ b, x = .dat (.bool b) ∧ (b = true → EvS K Zc tb s1 Φ) ∧ (b = false → Φ (.dat (.bool false)) s1)) : EvS K Zc (tAndV ta tb) s Φ := by
  refine NoI.keep (fun _ wNoI => ?_) ?_
  simp only [↓ NoI.wrOf wNoI (by
  clear wNoI
  intro ad H σ Q I p
  refine h ad H σ _ I fun v ad1 H1 x s1 h1 I1 F1 r1 => ?_
  obtain ⟨b, rfl, h1, h2⟩ := h1
  cases r1
  refine ⟨b, rfl, ?_⟩
  cases b with
  | true => exact h1 rfl ad1 H1 σ Q I1 (p.step F1)
  | false => exact (p.step F1).val I1 (h2 rfl) (.bl false)
  )]
  intro _ hNoI
  simpa using (fun (_ : NoI.Sg) => hNoI) [5]
theorem un_neg' {i : Int} (h1 : rd s.mem x = some (.int i)) (k : Φ (.dat (.int (-i))) s) : UnS K Zc (rU fun i => .int (-i)) x s Φ := by
  intro ad H σ v Q I r p
  exact ⟨i, rd_int I.mr r h1, p.val I k (sv := .dat _) (.int _)⟩

/-! ### arguments as they will stay -/
def ArD (K : PySem.W.Frag) (Zc : Addr → Prop) (t : TA) (s : S) (Ψ : List D → S → Prop) : Prop := ArS K Zc t s fun svs s' => ∃ ds, svs = ds.map SV.dat ∧ Ψ ds s'
theorem ad_nil {Ψ : List D → S → Prop} (k : Ψ [] s) : ArD K Zc tNil s Ψ := ar_nil ⟨[], rfl, k⟩
theorem ArS.imp {t : TA} {Ψ Ψ' : List SV → S → Prop} (h : ArS K Zc t s Ψ) (k : ∀ a b, Ψ a b → Ψ' a b) : ArS K Zc t s Ψ' := fun ad H σ Q I p => h ad H σ Q I fun vs ad' H' svs s' a b c d => p vs ad' H' svs s' (k _ _ a) b c d
theorem ad_cons {ta : TE} {tr : TA} {Ψ : List D → S → Prop} (h : EvS K Zc ta s (asD fun d s1 => ArD K Zc tr s1 fun ds s2 => Ψ (d :: ds) s2)) : ArD K Zc (tCons ta tr) s Ψ :=
  ar_cons (ev_asD h fun d s' q => ArS.imp q fun svs s2 ⟨ds, e, k⟩ => ⟨d :: ds, by rw [e]; rfl, k⟩)
theorem allD_dat : ∀ ds : List D, allD (ds.map SV.dat) = some ds
  | [] => rfl
  | d :: ds => by simp [allD, allD_dat ds]
theorem noOwn_dat : ∀ ds : List D, noOwn (ds.map SV.dat) = true
  | [] => rfl
  | d :: ds => by simp [noOwn, noOwn_dat ds]
theorem ev_tupD {ta : TA} (h : ArD K Zc ta s fun ds s1 => ds.length ≤ sizeLine ∧ Φ (.dat (.tuple ds)) s1) : EvS K Zc (tTupF ta) s Φ :=
  ev_tup (ArS.imp h fun svs s1 ⟨ds, e, hz, k⟩ => ⟨ds, by rw [e]; exact allD_dat ds, hz, k⟩)
theorem ev_lstD {ta : TA} (h : ArD K Zc ta s fun ds s1 => ds.length ≤ sizeLine ∧ Φ (.own s1.mem.length) ⟨s1.sl, s1.mem ++ [some (.list ds)]⟩) : EvS K Zc (tLst ta) s Φ :=
  ev_lst (ArS.imp h fun svs s1 ⟨ds, e, hz, k⟩ => ⟨ds, by rw [e]; exact allD_dat ds, hz, k⟩)
theorem ev_callD {C : Ct} {E : XK} {ta : TA} (h : ArD K Zc ta s fun ds s1 => C (ds.map SV.dat) [] (backP s1 Φ)) : EvS K Zc (tCall (spP K C) [] E ta) s Φ :=
  ev_call0 (ArS.imp h fun svs s1 ⟨ds, e, k⟩ => ⟨by rw [e]; exact noOwn_dat ds, by rw [e]; exact k⟩)
theorem ev_callBD {C : Ct} {E : XK} {i j : Nat} {tr : TA} (hi : s.sl[i]? = some (.own j)) (h : ArD K Zc tr s fun ds s1 => ∃ bs, s1.mem[j]? = some (some bs) ∧ C (.own 0 :: ds.map SV.dat) [some bs] (backB s1 j Φ)) :
    EvS K Zc (tCall (spP K C) [] E (tCons (tVar i) tr)) s Φ :=
  ev_callB (ar_cons (ev_var hi (by intro z; cases z) (ArS.imp h fun svs s1 ⟨ds, e, bs, h1, k⟩ => ⟨j, svs, bs, rfl, by rw [e]; exact noOwn_dat ds, h1, by rw [e]; exact k⟩)))
theorem asD_dat {Ψ : D → S → Prop} {d : D} (h : Ψ d s) : asD Ψ (.dat d) s := h
theorem asD_own {Ψ : D → S → Prop} {i : Nat} {ds : D} (e : s.mem[i]? = some (some ds)) (h : Ψ ds (s.fz i ds)) : asD Ψ (.own i) s := by
  show (match s.mem[i]? with | some (some ds) => Ψ ds (s.fz i ds) | _ => False)
  rw [e]
  exact h
theorem os_eqB {d e : D} (h1 : rd s.mem x = some d) (h2 : rd s.mem y = some e) (s1 : SeqAt.shaped d = true) (s2 : SeqAt.shaped e = true) {b : Bool} (hb : PyData.eqv d e = b) (k : Φ (.dat (.bool b)) s) : OpS K Zc (rEqU K) x y s Φ := os_eq h1 h2 s1 s2 (hb ▸ k)
theorem os_lt {i j : Int} (h1 : rd s.mem x = some (.int i)) (h2 : rd s.mem y = some (.int j)) (k : Φ (.dat (.bool (decide (i < j)))) s) : OpS K Zc (rI0 fun i j => .bl (decide (i < j))) x y s Φ := os_I0 h1 h2 (fun _ => .bl _) k
theorem os_le {i j : Int} (h1 : rd s.mem x = some (.int i)) (h2 : rd s.mem y = some (.int j)) (k : Φ (.dat (.bool (decide (i ≤ j)))) s) : OpS K Zc (rI0 fun i j => .bl (decide (i ≤ j))) x y s Φ := os_I0 h1 h2 (fun _ => .bl _) k
theorem os_gt {i j : Int} (h1 : rd s.mem x = some (.int i)) (h2 : rd s.mem y = some (.int j)) (k : Φ (.dat (.bool (decide (j < i)))) s) : OpS K Zc (rI0 fun i j => .bl (decide (j < i))) x y s Φ := os_I0 h1 h2 (fun _ => .bl _) k
theorem os_ge {i j : Int} (h1 : rd s.mem x = some (.int i)) (h2 : rd s.mem y = some (.int j)) (k : Φ (.dat (.bool (decide (j ≤ i)))) s) : OpS K Zc (rI0 fun i j => .bl (decide (j ≤ i))) x y s Φ := os_I0 h1 h2 (fun _ => .bl _) k
theorem os_sub {i j : Int} (h1 : rd s.mem x = some (.int i)) (h2 : rd s.mem y = some (.int j)) (k : Φ (.dat (.int (i - j))) s) : OpS K Zc (rI0 fun i j => .int (i - j)) x y s Φ := os_I0 h1 h2 (fun _ => .int _) k
theorem os_mod {i j : Int} (h1 : rd s.mem x = some (.int i)) (h2 : rd s.mem y = some (.int j)) (hc : 0 < j) (k : Φ (.dat (.int (i % j))) s) : OpS K Zc (rI (fun _ j => j ≠ 0) fun i j => .int (i.fmod j)) x y s Φ :=
  os_I h1 h2 (by omega) (fun _ => .int _) (by rw [Int.fmod_eq_emod_of_nonneg _ (by omega)]; exact k)
theorem os_div {i j : Int} (h1 : rd s.mem x = some (.int i)) (h2 : rd s.mem y = some (.int j)) (hc : 0 < j) (hb : j < 2 ^ 60) (k : Φ (.dat (.int (i / j))) s) : OpS K Zc (rI CDivW fun i j => .int (i / j)) x y s Φ :=
  os_I h1 h2 (wide_div hc (b := 60) (by omega) (by decide) (by decide)) (fun _ => .int _) k
theorem os_pow {i j : Int} (h1 : rd s.mem x = some (.int i)) (h2 : rd s.mem y = some (.int j)) (hc : CPow i j) (k : Φ (.dat (.int (i ^ j.toNat))) s) : OpS K Zc (rI CPow fun i j => .int (i ^ j.toNat)) x y s Φ :=
  os_I h1 h2 hc (fun _ => .int _) k
/-- what is left to know behind a turn, by places -/
def WkLs (k : Nat) : List SV → List SV → Prop
  | [], [] => True
  | a :: as, b :: bs => (b = .un ∨ (a = b ∧ ∀ j, b = .own j → j < k)) ∧ WkLs k as bs
  | _, _ => False
def WkMs : Mem → Mem → Prop
  | _, [] => True
  | a :: as, b :: bs => (b = none ∨ a = b) ∧ WkMs as bs
  | [], _ :: _ => False
theorem wkLs_len {k : Nat} : ∀ {a b : List SV}, WkLs k a b → b.length = a.length
  | [], [], _ => rfl
  | _ :: _, _ :: _, h => by simp [wkLs_len h.2]
  | [], _ :: _, h => h.elim
  | _ :: _, [], h => h.elim
theorem wkLs_get {k : Nat} : ∀ {a b : List SV} {i : Nat} {sv : SV}, WkLs k a b → b[i]? = some sv → sv = .un ∨ (a[i]? = some sv ∧ ∀ j, sv = .own j → j < k)
  | [], [], _, _, _, e => by simp at e
  | a :: _, b :: _, 0, sv, h, e => by
    simp at e
    subst e
    rcases h.1 with q | ⟨rfl, q⟩
    · exact .inl q
    · exact .inr ⟨rfl, q⟩
  | _ :: _, _ :: _, i + 1, sv, h, e => by
    have := wkLs_get (i := i) h.2 (by simpa using e)
    simpa using this
  | [], _ :: _, _, _, h, _ => h.elim
  | _ :: _, [], _, _, h, _ => h.elim
theorem wkMs_len : ∀ {a b : Mem}, WkMs a b → b.length ≤ a.length
  | _, [], _ => Nat.zero_le _
  | _ :: _, _ :: _, h => by simpa using wkMs_len h.2
  | [], _ :: _, h => h.elim
theorem wkMs_get : ∀ {a b : Mem} {i : Nat} {ds : D}, WkMs a b → b[i]? = some (some ds) → a[i]? = some (some ds)
  | _, [], _, _, _, e => by simp at e
  | a :: _, b :: _, 0, ds, h, e => by
    simp at e
    rcases h.1 with q | q
    · rw [q] at e; cases e
    · simp [q, e]
  | _ :: _, _ :: _, i + 1, ds, h, e => by
    have := wkMs_get (i := i) h.2 (by simpa using e)
    simpa using this
  | [], _ :: _, _, _, h, _ => h.elim
theorem Wk.of {s' : S} (h1 : WkLs s'.mem.length s.sl s'.sl) (h2 : WkMs s.mem s'.mem) : Wk s s' :=
  ⟨wkLs_len h1, fun i sv e => wkLs_get h1 e, wkMs_len h2, fun i ds e => wkMs_get h2 e⟩
theorem To.of {m : Nat} {I : S → Prop} (s' : S) (hI : I s') (h1 : WkLs s'.mem.length s.sl s'.sl) (h2 : WkMs s.mem s'.mem) (hn : m ≤ s'.mem.length) : To m I s := ⟨s', Wk.of h1 h2, hn, hI⟩
theorem ExS.imp {t : TS} {De' : DE} (h : ExS K Zc n t s De) (h1 : ∀ s, De.nx s → De'.nx s) (h2 : ∀ v m, De.rt v m → De'.rt v m) (h3 : ∀ s, De.bk s → De'.bk s) (h4 : ∀ s, De.ct s → De'.ct s) : ExS K Zc n t s De' :=
  fun ad H σ Dd I hn k1 k2 k3 k4 => h ad H σ Dd I hn (fun σ' ad' H' s' a b c => k1 σ' ad' H' s' (h1 _ a) b c) (fun v ad' H' rv m' a b c d => k2 v ad' H' rv m' (h2 _ _ a) b c d) (fun σ' ad' H' s' a b c => k3 σ' ad' H' s' (h3 _ a) b c) fun σ' ad' H' s' a b c => k4 σ' ad' H' s' (h4 _ a) b c
/-- a statement, then the rest from what is left to know -/
theorem ex_cut {t u : TS} (J : S → Prop) (h1 : ExS K Zc n t s { De with nx := To n J }) (h2 : ∀ s1, J s1 → n ≤ s1.mem.length → ExS K Zc n u s1 De) : ExS K Zc n (tSeq t u) s De :=
  ex_seq (h1.imp (fun s1 ⟨s2, w, hl, q⟩ => ex_wk w hl (h2 s2 q hl)) (fun _ _ q => q) (fun _ q => q) fun _ q => q)
/-- a comprehension whose element changes nothing -/
theorem ev_lcP {wi : TI} {te : TE} {i : Nat} (hi : IterS K Zc wi s fun items s1 => ∃ out : List D, out.length = items.length ∧ out.length ≤ 1000000 ∧
      (∀ (k : Nat) (d e : D) (m' : Mem), items[k]? = some d → out[k]? = some e → m' = s1.mem ++ [some (.list (out.take k))] →
        EvS K Zc te ⟨(s1.sl.set i .un).set i (.dat d), m'⟩ (asD fun y s4 => y = e ∧ Wk s4 ⟨s1.sl.set i .un, m'⟩)) ∧ Φ (.own s1.mem.length) ⟨s1.sl.set i .un, s1.mem ++ [some (.list out)]⟩) :
    EvS K Zc (tLc wi (gName i) tYes te [i]) s Φ := by
  refine NoI.keep (fun _ wNoI => ?_) ?_
  simp only [↓ NoI.wrOf wNoI (by
  clear wNoI
  refine ev_lc gw_name fun ad H σ R I p => hi ad H σ R I fun J ad' H' items s1 h I' F jok => p J ad' H' items s1 ?_ I' F jok
  obtain ⟨out, hl, hz, hs, hd⟩ := h
  refine ⟨fun k s => s = ⟨s1.sl.set i .un, s1.mem ++ [some (.list (out.take k))]⟩, by simp [wipeS], ?_, ?_⟩
  · rintro k d _ hk rfl hn
    have hk' : k < items.length := (List.getElem?_eq_some_iff.mp hk).1
    have he : out[k]? = some (out[k]'(by omega)) := List.getElem?_eq_getElem _
    refine g_name (tt_yes ⟨fun _ => ?_, fun h => by cases h⟩)
    refine (hs k d _ _ hk he rfl).imp ?_
    rintro sv s4 q
    have fin : ∀ y s4, (y = out[k]'(by omega) ∧ Wk s4 ⟨s1.sl.set i .un, s1.mem ++ [some (.list (out.take k))]⟩) →
        ∃ acc, s4.mem[s1.mem.length]? = some (some (.list acc)) ∧ acc.length < sizeLine ∧ To (s1.mem.length + 1) (fun s => s = ⟨s1.sl.set i .un, s1.mem ++ [some (.list (out.take (k + 1)))]⟩) ⟨wipeS s4.sl [i], s4.mem.set s1.mem.length (some (.list (acc ++ [y])))⟩ := by
      rintro y s4 ⟨rfl, w⟩
      have hm : s4.mem[s1.mem.length]? = some (some (.list (out.take k))) := w.mem _ _ (by simp)
      refine ⟨_, hm, ?_, _, ?_, ?_, rfl⟩
      · rw [List.length_take, sizeLine_eq]
        omega
      · refine ⟨by simpa [wipeS] using w.len, fun j sv e => ?_, ?_, fun j ds e => ?_⟩
        · have e : (s1.sl.set i SV.un)[j]? = some sv := e
          show sv = .un ∨ ((s4.sl.set i SV.un)[j]? = some sv ∧ _)
          by_cases hj : i = j
          · subst hj
            rw [List.getElem?_set] at e
            rw [if_pos rfl] at e
            split at e
            · cases e; exact .inl rfl
            · cases e
          · rcases w.sl j sv e with z | ⟨z1, z2⟩
            · exact .inl z
            · refine .inr ⟨by rw [List.getElem?_set_ne hj]; exact z1, ?_⟩
              intro j2 e2
              have := z2 j2 e2
              simpa using this
        · have := w.le
          simpa using this
        · have e : (s1.mem ++ [some (.list (out.take (k + 1)))])[j]? = some (some ds) := e
          show (s4.mem.set s1.mem.length _)[j]? = _
          by_cases hj : j = s1.mem.length
          · subst hj
            simp at e
            subst e
            rw [List.getElem?_set_self (List.getElem?_eq_some_iff.mp hm).1, List.take_add_one, he]
            rfl
          · rw [List.getElem?_set_ne fun z => hj z.symm]
            refine w.mem j ds ?_
            show (s1.mem ++ [some (.list (out.take k))])[j]? = some (some ds)
            by_cases h2 : j < s1.mem.length
            · rw [List.getElem?_append_left h2] at e ⊢; exact e
            · have := (List.getElem?_eq_some_iff.mp e).1
              simp at this
              omega
      · simp
    cases sv with
    | dat d => exact fin d s4 q
    | own j =>
      simp only [asD] at q ⊢
      split
      · rename_i ds e
        rw [e] at q
        exact fin _ _ q
      · rename_i h
        split at q
        · rename_i ds e
          exact absurd e (h ds)
        · exact q
    | ro _ => exact q.elim
    | rng _ _ => exact q.elim
    | exn _ _ _ => exact q.elim
    | un => exact q.elim
  · rintro _ rfl
    rw [show out.take items.length = out by rw [← hl, List.take_length]]
    simpa [wipeS] using hd
  )]
  intro _ hNoI
  simpa using (fun (_ : NoI.Sg) => hNoI) [5]
end
end SH

namespace SH
open PySem PySem.Spec PyProof.Rows L2
variable [WW]

/-! ### range objects -/
def rRng : List V → Hp → VK → Prop := fun vs H Q => (∃ j, vs = [V.int j] ∧ ∀ p, H p = none → Q (.ref p) (upd H p (.rng 0 j))) ∨ ∃ i j, vs = [V.int i, V.int j] ∧ ∀ p, H p = none → Q (.ref p) (upd H p (.rng i j))
/-! sums -/
def upTo (lo hi : Int) : List Int := (List.range (hi - lo).toNat).map fun (i : Nat) => lo + (i : Int)
end SH

set_option maxHeartbeats 1000000
/-! dict(zip(a, b)) of two tuples -/
namespace SH
open PySem PySem.Spec PyProof.Rows L2
variable [WW]
section
variable {prog : Program} {w : World} {A : Around} {E : Value → Shared → Prop} {s : Shared}
end
end SH

namespace SH
open PySem PySem.Spec PyProof.Rows L2
variable [WW]
section
variable {K : PySem.W.Frag} {Zc : Addr → Prop} {s : S} {x y : SV} {Φ : SV → S → Prop} {n : Nat} {De : DE}
/-! ### ranges -/
theorem cb_rng1 {j : Int} (h1 : rd s.mem x = some (.int j)) (k : Φ (.rng 0 j) s) : CbS K Zc rRng [x] s Φ := by
  refine NoI.keep (fun _ wNoI => ?_) ?_
  simp only [↓ NoI.wrOf wNoI (by
  clear wNoI
  intro ad H σ vs Q I r p
  obtain ⟨v, rfl, r1⟩ := vrs1 r
  exact .inl ⟨j, by rw [rd_int I.mr r1 h1], fun a ha => p _ ad _ _ s k (I.newT ha) (.newT ha) ⟨a, rfl, I.mr.newT_at ha⟩⟩
  )]
  intro _ hNoI
  simpa using (fun (_ : NoI.Sg) => hNoI) [5]
theorem cb_rng2 {i j : Int} (h1 : rd s.mem x = some (.int i)) (h2 : rd s.mem y = some (.int j)) (k : Φ (.rng i j) s) : CbS K Zc rRng [x, y] s Φ := by
  refine NoI.keep (fun _ wNoI => ?_) ?_
  simp only [↓ NoI.wrOf wNoI (by
  clear wNoI
  intro ad H σ vs Q I r p
  obtain ⟨v, u, rfl, r1, r2⟩ := vrs2 r
  exact .inr ⟨i, j, by rw [rd_int I.mr r1 h1, rd_int I.mr r2 h2], fun a ha => p _ ad _ _ s k (I.newT ha) (.newT ha) ⟨a, rfl, I.mr.newT_at ha⟩⟩
  )]
  intro _ hNoI
  simpa using (fun (_ : NoI.Sg) => hNoI) [5]
/-- list(x): of a list, a tuple, a range -/
def rListW (K : PySem.W.Frag) : List V → Hp → VK → Prop := fun xs H Q => rListU K xs H Q ∨ ∃ p lo hi, xs = [.ref p] ∧ H p = some (.rng lo hi) ∧ (-(2 ^ 62) ≤ lo ∧ lo < 2 ^ 62 ∧ -(2 ^ 62) ≤ hi ∧ hi < 2 ^ 62) ∧ hi - lo ≤ 2 ^ 24 ∧
  ∀ l, H l = none → Q (.ref l) (upd H l (.lst ((upTo lo hi).map V.int)))
theorem cb_listWL {ds : List D} (h1 : rd s.mem x = some (.list ds)) (k : Φ (.own s.mem.length) ⟨s.sl, s.mem ++ [some (.list ds)]⟩) : CbS K Zc (rListW K) [x] s Φ := fun ad H σ vs Q I r p => .inl (cb_listL h1 k ad H σ vs Q I r p)
theorem cb_listWT {ds : List D} (h1 : rd s.mem x = some (.tuple ds)) (k : Φ (.own s.mem.length) ⟨s.sl, s.mem ++ [some (.list ds)]⟩) : CbS K Zc (rListW K) [x] s Φ := fun ad H σ vs Q I r p => .inl (cb_listT h1 k ad H σ vs Q I r p)
theorem dvs_ints {H : Hp} : ∀ ns : List Int, DVs K H (ns.map V.int) (ns.map PyData.int)
  | [] => .nil
  | n :: ns => .cons (.int n) (dvs_ints ns)
/-! ### sorted, of strings or of ints -/
def rSortU (K : PySem.W.Frag) : List V → Hp → VK → Prop := fun xs H Q => rSortedS K xs H Q ∨ rSorted K xs H Q
theorem call_sortU {X : Cx} : CallR X (.builtin "sorted") (rSortU X.K) := by
  intro pins s σ H vs us Q I r h
  rcases h with h | h
  · exact cr_sortedS pins s σ H vs us Q I r h
  · exact cr_sorted pins s σ H vs us Q I r h
/-! ### in, not in -/
def rInU (K : PySem.W.Frag) (neg : Bool) : R2 := fun x y H Q => rIn K neg x y H Q ∨ ∃ a o, y = .ref a ∧ DGet H a x o ∧ Q (.bl (if neg then !o.isSome else o.isSome)) H
theorem op_inU {X : Cx} (hu : X.A.units + 1 < cLine) : OpR X (compareOp .In) (rInU X.K false) := by
  refine NoI.keep (fun _ wNoI => ?_) ?_
  simp only [↓ NoI.wrOf wNoI (by
  clear wNoI
  intro pins s σ H x y v u Q I rx ry h
  rcases h with h | ⟨a, o, rfl, g, q⟩
  · exact op_in_seq pins s σ H x y v u Q I rx ry h
  · cases ry
    exact d_in hu I g rx fun s3 I3 => ⟨.bl o.isSome, H, I3, rfl, q⟩
  )]
  intro _ hNoI
  simpa using (fun (_ : NoI.Sg) => hNoI) [5]
/-- list or tuple -/
def seqD (d : D) : Option (List D) := match d with
  | .list ds => some ds
  | .tuple ds => some ds
  | _ => none
theorem rd_seq {ad : List Addr} {H : Hp} {m : Mem} {v : V} {sv : SV} {d : D} {ds : List D} (h : MR K Zc ad H m) (r : VR K Zc ad m H v sv) (e : rd m sv = some d) (hs : seqD d = some ds) :
    ∃ a vs, v = .ref a ∧ (SqL K H a vs ∨ SqT K H a vs) ∧ DVs K (FZ Zc ad m H) vs ds := by
  refine NoI.keep (fun _ wNoI => ?_) ?_
  simp only [↓ NoI.wrOf wNoI (by
  clear wNoI
  cases d with
  | list es =>
    cases hs
    obtain ⟨a, us, rfl, e1, d1⟩ := rd_lst h r e
    exact ⟨a, us, rfl, .inl (SqL.of e1), d1⟩
  | tuple es =>
    cases hs
    obtain ⟨a, us, rfl, e1, d1⟩ := rd_tup h r e
    exact ⟨a, us, rfl, .inr e1, d1⟩
  | none => cases hs
  | bool _ => cases hs
  | int _ => cases hs
  | str _ => cases hs
  | dict _ => cases hs
  )]
  intro _ hNoI
  simpa using (fun (_ : NoI.Sg) => hNoI) [5]
end
/-! ### t.index(x) -/
section
variable {K : PySem.W.Frag} {Zc : Addr → Prop} {s : S} {x y : SV} {Φ : SV → S → Prop} {n : Nat} {De : DE}
end
end SH

namespace SH
open PySem PySem.Spec PyProof.Rows L2
variable [WW]
/-! ### dicts whose keys are ints and strings -/
def dk (es : List (Key × D)) : List (D × D) := es.map fun p => (kD p.1, p.2)
theorem kD_inj {a b : Key} (h : kD a = kD b) : a = b := by
  cases a <;> cases b <;> simp [kD] at h <;> simp [h]
def ptD : List (Key × D) → Key → D → List (Key × D)
  | [], k, d => [(k, d)]
  | p :: r, k, d => if p.1 = k then (p.1, d) :: r else p :: ptD r k d
inductive KR (K : PySem.W.Frag) (H : Hp) : List (Key × V) → List (Key × D) → Prop
  | nil : KR K H [] []
  | cons {k : Key} {v : V} {d : D} {kvs : List (Key × V)} {es : List (Key × D)} : DV K H v d → KR K H kvs es → KR K H ((k, v) :: kvs) ((k, d) :: es)
section
variable {K : PySem.W.Frag} {H H' : Hp}
theorem KR.keys : ∀ {kvs : List (Key × V)} {es : List (Key × D)}, KR K H kvs es → kvs.map (·.1) = es.map (·.1)
  | _, _, .nil => rfl
  | _, _, .cons _ t => by simp [t.keys]
theorem KR.vals : ∀ {kvs : List (Key × V)} {es : List (Key × D)}, KR K H kvs es → DVs K H (kvs.map (·.2)) (es.map (·.2))
  | _, _, .nil => .nil
  | _, _, .cons r t => .cons r t.vals
theorem KR.len : ∀ {kvs : List (Key × V)} {es : List (Key × D)}, KR K H kvs es → kvs.length = es.length
  | _, _, .nil => rfl
  | _, _, .cons _ t => by simp [t.len]
theorem KR.of : ∀ {kvs : List (Key × V)} {es : List (Key × D)}, es.map (fun p => kD p.1) = kvs.map (fun p => kD p.1) → DVs K H (kvs.map (·.2)) (es.map (·.2)) → KR K H kvs es
  | [], [], _, _ => .nil
  | (k, v) :: kvs, (j, d) :: es, e, h => by
    rw [List.map_cons, List.map_cons] at e
    injection e with e1 e2
    cases kD_inj e1
    cases h with
    | cons r t => exact .cons r (KR.of e2 t)
  | [], _ :: _, e, _ => by simp at e
  | _ :: _, [], e, _ => by simp at e
theorem KR.cell {kvs : List (Key × V)} {es : List (Key × D)} {a : Addr} (h : KR K H kvs es) : Cell K H a (.dK kvs) (.dict (dk es)) := by
  refine NoI.keep (fun _ wNoI => ?_) ?_
  simp only [↓ NoI.wrOf wNoI (by
  clear wNoI
  refine .dK ?_ ?_
  · have := congrArg (List.map kD) h.keys
    simp only [List.map_map] at this
    simp only [dk, List.map_map]
    exact this.symm
  · simp only [dk, List.map_map]
    exact h.vals
  )]
  intro _ hNoI
  simpa using (fun (_ : NoI.Sg) => hNoI) [5]
theorem KR.mono (e : Same H H') : ∀ {kvs : List (Key × V)} {es : List (Key × D)}, KR K H kvs es → KR K H' kvs es
  | _, _, .nil => .nil
  | _, _, .cons r t => .cons (dp_mono e _ _ r) (t.mono e)
theorem putK_cons {p : Key × V} {kvs : List (Key × V)} {k : Key} {v : V} (hn : ((p :: kvs).map (·.1)).Nodup) : putK (p :: kvs) k v = if p.1 = k then (p.1, v) :: kvs else p :: putK kvs k v := by
  refine NoI.keep (fun _ wNoI => ?_) ?_
  simp only [↓ NoI.wrOf wNoI (by
  clear wNoI
  rw [List.map_cons, List.nodup_cons] at hn
  unfold putK
  by_cases q : p.1 = k
  · rw [if_pos q, if_pos (by simp [q]), List.map_cons, if_pos q]
    congr 1
    rw [List.map_congr_left (g := id) fun x hx => ?_, List.map_id]
    have : x.1 ≠ k := fun z => hn.1 (by rw [q, ← z]; exact List.mem_map_of_mem hx)
    simp [this]
  · rw [if_neg q]
    by_cases z : (kvs.any fun kv => decide (kv.1 = k)) = true
    · rw [if_pos (by rw [List.any_cons, z, Bool.or_true]), if_pos z, List.map_cons, if_neg q]
    · rw [if_neg (by rw [List.any_cons, decide_eq_false q, Bool.false_or]; exact z), if_neg z]
      rfl
  )]
  intro _ hNoI
  simpa using (fun (_ : NoI.Sg) => hNoI) [5]
theorem KR.put {k : Key} {v : V} {d : D} (r0 : DV K H v d) : ∀ {kvs : List (Key × V)} {es : List (Key × D)}, KR K H kvs es → (es.map (·.1)).Nodup → KR K H (putK kvs k v) (ptD es k d)
  | _, _, .nil, _ => .cons r0 .nil
  | _, _, .cons (k := j) r t, hn => by
    rw [putK_cons (by rw [(KR.cons r t).keys]; exact hn)]
    unfold ptD
    rw [List.map_cons, List.nodup_cons] at hn
    by_cases q : j = k
    · rw [if_pos q, if_pos q]; exact .cons r0 t
    · rw [if_neg q, if_neg q]; exact .cons r (t.put r0 hn.2)
end
section
variable {K : PySem.W.Frag} {Zc : Addr → Prop} {s : S} {x y : SV} {Φ : SV → S → Prop} {n : Nat} {De : DE}
/-- x[y]: of lists, tuples, strings, dicts -/
def rIxU (K : PySem.W.Frag) : R2 := fun x y H Q => rIx K x y H Q ∨ (∃ a v, x = .ref a ∧ DGet H a y (some v) ∧ Q v H) ∨ rIxV K x y H Q
theorem ix_dk {X : Cx} (hu : X.A.units + 1 < cLine) : IxR X (fun x y H Q => ∃ a v, x = .ref a ∧ DGet H a y (some v) ∧ Q v H) := by
  refine NoI.keep (fun _ wNoI => ?_) ?_
  simp only [↓ NoI.wrOf wNoI (by
  clear wNoI
  intro value slice pins s σ H x y v u Q I rx ry h hs
  obtain ⟨a, w, rfl, g, q⟩ := h
  obtain rfl : v = Value.ref a := rx
  exact tail_any (dict_typeIs I g) PySem.F.slot_dict_getitem.lookup (d_getItem hu I g ry fun w' s' I' r' => ⟨w, H, I', r', q⟩) hs
  )]
  intro _ hNoI
  simpa using (fun (_ : NoI.Sg) => hNoI) [5]
theorem ix_U {X : Cx} (hu : X.A.units + 64 < cLine) : IxR X (@rIxU ⟨X.w⟩ X.K) := ix_seq.or ((ix_dk (by omega)).or (ix_dx hu))
theorem os_uL {ds : List D} {i : Int} {d : D} (h1 : rd s.mem x = some (.list ds)) (h2 : rd s.mem y = some (.int i)) (e : atI ds i = some d) (k : Φ (.dat d) s) : OpS K Zc (rIxU K) x y s Φ :=
  fun ad H σ v u Q I r1 r2 p => .inl (os_ixL h1 h2 e k ad H σ v u Q I r1 r2 p)
theorem os_uT {ds : List D} {i : Int} {d : D} (h1 : rd s.mem x = some (.tuple ds)) (h2 : rd s.mem y = some (.int i)) (e : atI ds i = some d) (k : Φ (.dat d) s) : OpS K Zc (rIxU K) x y s Φ :=
  fun ad H σ v u Q I r1 r2 p => .inl (os_ixT h1 h2 e k ad H σ v u Q I r1 r2 p)
theorem os_uS {z : Str} {i : Int} {c : Nat} (h1 : rd s.mem x = some (.str z)) (h2 : rd s.mem y = some (.int i)) (hz : z.length ≤ sizeLine) (e : atI z.cps.toList i = some c) (k : Φ (.dat (.str ⟨#[c]⟩)) s) : OpS K Zc (rIxU K) x y s Φ :=
  fun ad H σ v u Q I r1 r2 p => .inl (os_ixS h1 h2 hz e k ad H σ v u Q I r1 r2 p)
/-! ### targets that store into cells -/
def rSetU : TSet := fun o i v H Q => rSetL o i v H Q ∨ (∃ a H', o = .ref a ∧ DPut H a i v H' ∧ Q H') ∨ rSetV o i v H Q
def GT (K : PySem.W.Frag) (Zc : Addr → Prop) (g : TG) (sv : SV) (s : S) (Ψ : S → Prop) : Prop :=
  ∀ ad H σ v (Q : L2.St → Hp → Prop), SR K Zc ad H σ s → VR K Zc ad s.mem H v sv → (∀ σ' ad' H' s', Ψ s' → SR K Zc ad' H' σ' s' → Frm Zc s.mem.length ad s.mem H ad' s'.mem H' → Q σ' H') → g v σ H Q
def GTs (K : PySem.W.Frag) (Zc : Addr → Prop) (g : TGs) (ds : List D) (s : S) (Ψ : S → Prop) : Prop :=
  ∀ ad H σ vs (Q : L2.St → Hp → Prop), SR K Zc ad H σ s → DVs K (FZ Zc ad s.mem H) vs ds → (∀ σ' ad' H' s', Ψ s' → SR K Zc ad' H' σ' s' → Frm Zc s.mem.length ad s.mem H ad' s'.mem H' → Q σ' H') → g vs σ H Q
theorem gt_name {i : Nat} {sv : SV} {Ψ : S → Prop} (h : Ψ ⟨s.sl.set i sv, s.mem⟩) : GT K Zc (gName i) sv s Ψ := by
  intro ad H σ v Q I r k
  exact k _ _ _ _ h (I.set r) (.refl (Nat.le_refl _))
theorem gt_nil {Ψ : S → Prop} (h : Ψ s) : GTs K Zc gNil [] s Ψ := by
  intro ad H σ vs Q I r k
  cases r
  exact ⟨rfl, k _ _ _ s h I (.refl (Nat.le_refl _))⟩
theorem gt_cons {g : TG} {u : TGs} {d : D} {ds : List D} {Ψ : S → Prop} (h : GT K Zc g (.dat d) s fun s1 => GTs K Zc u ds s1 Ψ) : GTs K Zc (gCons g u) (d :: ds) s Ψ := by
  refine NoI.keep (fun _ wNoI => ?_) ?_
  simp only [↓ NoI.wrOf wNoI (by
  clear wNoI
  intro ad H σ vs Q I r k
  cases r with
  | cons r1 r2 =>
    refine ⟨_, _, rfl, h ad H σ _ _ I r1 fun σ1 ad1 H1 s1 h1 I1 F1 => ?_⟩
    exact h1 ad1 H1 σ1 _ Q I1 (dpAll_mono F1.same _ _ r2) fun σ2 ad2 H2 s2 a b c => k σ2 ad2 H2 s2 a b (F1.trans c F1.le)
  )]
  intro _ hNoI
  simpa using (fun (_ : NoI.Sg) => hNoI) [5]
theorem gt_tup {K' : PySem.W.Frag} {j : Nat} {u : TGs} {d : D} {ds : List D} {Ψ : S → Prop} (hK : K' = K) (hd : d = .tuple ds) (hl : ds.length = j) (h : GTs K Zc u ds s Ψ) : GT K Zc (gTup K' j u) (.dat d) s Ψ := by
  refine NoI.keep (fun _ wNoI => ?_) ?_
  simp only [↓ NoI.wrOf wNoI (by
  clear wNoI
  intro ad H σ v Q I r k
  subst hK hd
  cases r with
  | tup h1 h2 => exact ⟨_, _, rfl, (h1.same Fz_le).sq, by rw [dpAll_len h2]; exact hl, h ad H σ _ Q I h2 k⟩
  )]
  intro _ hNoI
  simpa using (fun (_ : NoI.Sg) => hNoI) [5]
theorem ex_asgT {te : TE} {g : TG} (h : EvS K Zc te s (asD fun d s1 => GT K Zc g (.dat d) s1 De.nx)) : ExS K Zc n (tAsg te g) s De := by
  refine NoI.keep (fun _ wNoI => ?_) ?_
  simp only [↓ NoI.wrOf wNoI (by
  clear wNoI
  intro ad H σ Dd I hn k1 k2 k3 k4
  refine ev_asD (Φ := fun sv s1 => ∃ d, sv = .dat d ∧ GT K Zc g (.dat d) s1 De.nx) h (fun d s' z => ⟨d, rfl, z⟩) ad H σ _ I fun v ad1 H1 sv s1 h1 I1 F1 r1 => ?_
  obtain ⟨d, rfl, h1⟩ := h1
  exact h1 ad1 H1 σ v _ I1 r1 fun σ2 ad2 H2 s2 h2 I2 F2 => k1 σ2 ad2 H2 _ h2 I2 ((F1.trans F2 F1.le).less hn)
  )]
  intro _ hNoI
  simpa using (fun (_ : NoI.Sg) => hNoI) [5]

/-! ### tuple * int, pop(i) -/
def rRepF (K : PySem.W.Frag) : R2 := fun x y H Q => ∃ l k xs, x = .ref l ∧ y = .int k ∧ SqT K H l xs ∧ xs ≠ [] ∧ 2 ≤ k ∧ k ≤ 1000 ∧ xs.length ≤ 1000 ∧ mkT H (List.replicate k.toNat xs).flatten Q
theorem op_repF {X : Cx} : OpR X (binaryOp .Mult) (rRepF X.K) := by
  refine NoI.keep (fun _ wNoI => ?_) ?_
  simp only [↓ NoI.wrOf wNoI (by
  clear wNoI
  intro pins s σ H x y v u Q I rx ry h
  obtain ⟨l, k, xs, rfl, rfl, hT, hne, h1, h2, hz, q⟩ := h
  cases rx
  obtain ⟨t, rfl⟩ := ry
  obtain ⟨its, r, ⟨⟨cls, dd, data, sl⟩, ho, hc, n, hd⟩, hs⟩ := I.tuple hT
  simp only at hc hd
  subst hc hd
  have hle : its.length = xs.length := r.length.symm
  have hi : its.toArray.isEmpty = false := by
    cases its with
    | nil => exact absurd (List.eq_nil_of_length_eq_zero hle.symm) hne
    | cons a b => rfl
  have hm : ((its.toArray.size : Nat) : Int) * k ≤ 1000000 := by
    rw [List.size_toArray, hle]
    exact Int.le_trans (Int.mul_le_mul_of_nonneg_right (by omega : ((xs.length : Nat) : Int) ≤ 1000) (by omega)) (by omega)
  have fl : ∀ ys : List V, ys.length = xs.length → (List.replicate k.toNat ys).flatten.length ≤ sizeLine := fun ys e => by
    rw [PyProof.Rows.lm_len_rep_flat, e, sizeLine_eq]
    have : k.toNat * xs.length ≤ 1000 * 1000 := Nat.mul_le_mul (by omega) hz
    omega
  have fl2 : (List.replicate k.toNat its).flatten.length ≤ sizeLine := by
    rw [PyProof.Rows.lm_len_rep_flat, hle, sizeLine_eq]
    have : k.toNat * xs.length ≤ 1000 * 1000 := Nat.mul_le_mul (by omega) hz
    omega
  have c0 : (decide (k < -(2 ^ 63)) || decide (k ≥ 2 ^ 63)) = false := by
    rw [decide_eq_false (by omega), decide_eq_false (by omega)] <;> rfl
  have c1 : (its.toArray.isEmpty || k == 1) = false := by
    rw [hi, Bool.false_or]
    exact beq_eq_false_iff_ne.mpr (by omega)
  have c2 : (decide (k ≤ 0) || its.toArray.isEmpty) = false := by
    rw [hi, Bool.or_false]
    exact decide_eq_false (by omega)
  have c4 : Builtin.Tuple.tupleTooMany (((its.toArray.size : Nat) : Int) * k) = false := by
    unfold Builtin.Tuple.tupleTooMany
    rw [sizeLine_eq]
    exact decide_eq_false (by omega)
  refine wpAny_binaryOp_repeat_ref (T := "tuple") (U := "int") (by decide) ⟨_, ho, rfl⟩ (fun s' => typeIs_int s' k t) noFill_tuple_mul PySem.F.fills_int_mul PySem.F.slot_int_rmul repeat_tuple PySem.F.slot_int_index.lookup
    (call_meets PySem.F.slot_int_rmul (typeIs_int s k t) PySem.F.entry_int_rmul (PySem.F.args_int_rmul_2 _ _) (int_rmul_tuple k t l its.toArray n dd sl)
      ⟨ho, rfl, ⟨_, ho, rfl⟩, call_meets PySem.F.slot_tuple_mul ⟨_, ho, rfl⟩ PySem.F.entry_tuple_mul (PySem.F.args_tuple_mul_2 _ _) (tuple_mulW l its.toArray n dd sl k t c0 c1 c2 (by omega) c4 (by rw [size_rep, List.size_toArray]; exact fl2)) ⟨ho, ?_⟩⟩)
  rw [size_rep]
  exact newTup I (r.rep k.toNat) (fl xs rfl) q
  )]
  intro _ hNoI
  simpa using (fun (_ : NoI.Sg) => hNoI) [5]
def rMulX (K : PySem.W.Frag) : R2 := fun x y H Q => rMulU x y H Q ∨ rRepF K x y H Q
theorem op_mulX {X : Cx} : OpR X (binaryOp .Mult) (rMulX X.K) := opr_or op_mulU op_repF
theorem os_mxI {i j : Int} (h1 : rd s.mem x = some (.int i)) (h2 : rd s.mem y = some (.int j)) (hc : CMulW i j) (k : Φ (.dat (.int (i * j))) s) : OpS K Zc (rMulX K) x y s Φ :=
  fun ad H σ v u Q I r1 r2 p => .inl (os_mulI h1 h2 hc k ad H σ v u Q I r1 r2 p)
theorem os_mxS {z : Str} {n : Int} (h1 : rd s.mem x = some (.str z)) (h2 : rd s.mem y = some (.int n)) (hc : MulOk z n) (k : Φ (.dat (.str (Txt.mul z n))) s) : OpS K Zc (rMulX K) x y s Φ :=
  fun ad H σ v u Q I r1 r2 p => .inl (os_mulS h1 h2 hc k ad H σ v u Q I r1 r2 p)
end
end SH

namespace SH
open PySem PySem.Spec PyProof.Rows L2
variable [WW]
section
variable {K : PySem.W.Frag} {Zc : Addr → Prop} {s : S} {x y : SV} {Φ : SV → S → Prop} {n : Nat} {De : DE}
theorem wk_wipe {s4 : S} {sl0 : List SV} {i : Nat} {m0 : Mem} (w : Wk s4 ⟨sl0.set i .un, m0⟩) : Wk ⟨wipeS s4.sl [i], s4.mem⟩ ⟨sl0.set i .un, m0⟩ := by
  refine NoI.keep (fun _ wNoI => ?_) ?_
  simp only [↓ NoI.wrOf wNoI (by
  clear wNoI
  refine ⟨by simpa [wipeS] using w.len, fun j sv e => ?_, w.le, w.mem⟩
  have e : (sl0.set i SV.un)[j]? = some sv := e
  show sv = .un ∨ ((s4.sl.set i SV.un)[j]? = some sv ∧ _)
  by_cases hj : i = j
  · subst hj
    rw [List.getElem?_set, if_pos rfl] at e
    split at e
    · cases e; exact .inl rfl
    · cases e
  · rcases w.sl j sv e with z | ⟨z1, z2⟩
    · exact .inl z
    · exact .inr ⟨by rw [List.getElem?_set_ne hj]; exact z1, z2⟩
  )]
  intro _ hNoI
  simpa using (fun (_ : NoI.Sg) => hNoI) [5]
theorem wk_acc {s4 : S} {sl0 : List SV} {m0 : Mem} {a c : D} (w : Wk s4 ⟨sl0, m0 ++ [some a]⟩) : Wk ⟨s4.sl, s4.mem.set m0.length (some c)⟩ ⟨sl0, m0 ++ [some c]⟩ := by
  refine NoI.keep (fun _ wNoI => ?_) ?_
  simp only [↓ NoI.wrOf wNoI (by
  clear wNoI
  have hm : s4.mem[m0.length]? = some (some a) := w.mem _ _ (by simp)
  refine ⟨w.len, fun j sv e => ?_, ?_, fun j ds e => ?_⟩
  · rcases w.sl j sv e with z | ⟨z1, z2⟩
    · exact .inl z
    · exact .inr ⟨z1, fun j2 e2 => by have := z2 j2 e2; simpa using this⟩
  · have := w.le
    simpa using this
  · have e : (m0 ++ [some c])[j]? = some (some ds) := e
    show (s4.mem.set m0.length _)[j]? = _
    by_cases hj : j = m0.length
    · subst hj
      simp at e
      subst e
      rw [List.getElem?_set_self (List.getElem?_eq_some_iff.mp hm).1]
    · rw [List.getElem?_set_ne fun z => hj z.symm]
      refine w.mem j ds ?_
      show (m0 ++ [some a])[j]? = some (some ds)
      by_cases h2 : j < m0.length
      · rw [List.getElem?_append_left h2] at e ⊢; exact e
      · have := (List.getElem?_eq_some_iff.mp e).1
        simp at this
        omega
  )]
  intro _ hNoI
  simpa using (fun (_ : NoI.Sg) => hNoI) [5]
/-- a cell handed to a method: it stays as it is from here on -/
theorem mt_fz {r : V → List V → Hp → VK → Prop} {i j : Nat} {e : D} (hj : s.mem[j]? = some (some e)) (h : MtS K Zc r (.own i) [.dat e] (s.fz j e) Φ) : MtS K Zc r (.own i) [.own j] s Φ := by
  refine NoI.keep (fun _ wNoI => ?_) ?_
  simp only [↓ NoI.wrOf wNoI (by
  clear wNoI
  intro ad H σ v vs Q I r1 r2 p
  obtain ⟨y, rfl, ry⟩ := vrs1 r2
  obtain ⟨_, a, h2, rfl⟩ := ry
  have F : Frm Zc s.mem.length ad s.mem H ad (s.fz j e).mem H := Frm.drop (i := j)
  exact h ad H σ v _ Q (I.fz hj) (VR.frm (sv := .own i) r1 F) ⟨I.mr.drop_at hj h2, trivial⟩ (p.step F)
  )]
  intro _ hNoI
  simpa using (fun (_ : NoI.Sg) => hNoI) [5]
/-- a comprehension with a test, whose element changes nothing -/
theorem ev_lcG {wi : TI} {tt : TT} {te : TE} {i : Nat} (hi : IterS K Zc wi s fun items s1 => ∃ g : D → Option D, items.length ≤ 1000000 ∧
      (∀ (k : Nat) (d : D) (m' : Mem), items[k]? = some d → m' = s1.mem ++ [some (.list ((items.take k).filterMap g))] →
        TtS K Zc tt ⟨(s1.sl.set i .un).set i (.dat d), m'⟩ fun b s3 =>
          (b = true → ∃ e, g d = some e ∧ EvS K Zc te s3 (asD fun y s4 => y = e ∧ Wk s4 ⟨s1.sl.set i .un, m'⟩)) ∧ (b = false → g d = none ∧ Wk s3 ⟨s1.sl.set i .un, m'⟩)) ∧
      Φ (.own s1.mem.length) ⟨s1.sl.set i .un, s1.mem ++ [some (.list (items.filterMap g))]⟩) :
    EvS K Zc (tLc wi (gName i) tt te [i]) s Φ := by
  refine NoI.keep (fun _ wNoI => ?_) ?_
  simp only [↓ NoI.wrOf wNoI (by
  clear wNoI
  refine ev_lc gw_name fun ad H σ R I p => hi ad H σ R I fun J ad' H' items s1 h I' F jok => p J ad' H' items s1 ?_ I' F jok
  obtain ⟨g, hz, hs, hd⟩ := h
  refine ⟨fun k s => s = ⟨s1.sl.set i .un, s1.mem ++ [some (.list ((items.take k).filterMap g))]⟩, by simp [wipeS], ?_, ?_⟩
  · rintro k d _ hk rfl hn
    have tk : (items.take (k + 1)).filterMap g = (items.take k).filterMap g ++ (g d).toList := by
      rw [List.take_add_one, hk, List.filterMap_append]
      show _ ++ List.filterMap g [d] = _
      rw [List.filterMap_cons, List.filterMap_nil]
      cases g d <;> rfl
    refine g_name ?_
    intro ad H σ Q I p
    refine hs k d _ hk rfl ad H σ Q I fun b ad' H' s3 h3 I3 F3 => p b ad' H' s3 ⟨fun hb => ?_, fun hb => ?_⟩ I3 F3
    · obtain ⟨e, he, h3⟩ := h3.1 hb
      have fin : ∀ y s4, (y = e ∧ Wk s4 ⟨s1.sl.set i .un, s1.mem ++ [some (.list ((items.take k).filterMap g))]⟩) →
          ∃ acc, s4.mem[s1.mem.length]? = some (some (.list acc)) ∧ acc.length < sizeLine ∧ To (s1.mem.length + 1) (fun s => s = ⟨s1.sl.set i .un, s1.mem ++ [some (.list ((items.take (k + 1)).filterMap g))]⟩) ⟨wipeS s4.sl [i], s4.mem.set s1.mem.length (some (.list (acc ++ [y])))⟩ := by
        rintro y s4 ⟨rfl, w⟩
        refine ⟨(items.take k).filterMap g, w.mem _ _ (by simp), ?_, _, ?_, ?_, rfl⟩
        · have h1 := List.length_filterMap_le g (items.take k)
          have h2 := List.length_take_le k items
          have h3 : (items.take k).length ≤ items.length := by rw [List.length_take]; omega
          rw [sizeLine_eq]
          omega
        · rw [tk, he]
          exact wk_wipe (wk_acc w)
        · simp
      refine h3.imp ?_
      rintro sv s4 q
      cases sv with
      | dat d => exact fin d s4 q
      | own j =>
        simp only [asD] at q ⊢
        split
        · rename_i ds e
          rw [e] at q
          exact fin _ _ q
        · rename_i h
          split at q
          · rename_i ds e
            exact absurd e (h ds)
          · exact q
      | ro _ => exact q.elim
      | rng _ _ => exact q.elim
      | exn _ _ _ => exact q.elim
      | un => exact q.elim
    · obtain ⟨he, w⟩ := h3.2 hb
      refine ⟨_, ?_, ?_, rfl⟩
      · rw [tk, he]
        simp only [Option.toList_none, List.append_nil]
        exact wk_wipe w
      · simp
  · rintro _ rfl
    rw [List.take_length]
    simpa [wipeS] using hd
  )]
  intro _ hNoI
  simpa using (fun (_ : NoI.Sg) => hNoI) [5]
/-! ### repr, of an int too -/
def rReprW (K : PySem.W.Frag) : List V → Hp → VK → Prop := fun xs H Q => rReprU K xs H Q ∨ (∃ i, xs = [.int i] ∧ i.natAbs.log2 < 1920 ∧ Q (.str (toString i)) H) ∨ rReprV K xs H Q
theorem call_reprW {X : Cx} {k : Nat} (hg : X.A.guards = some []) (hr : Room k X.A) : CallR X (.builtin "repr") (@rReprW ⟨X.w⟩ X.K) := by
  refine NoI.keep (fun _ wNoI => ?_) ?_
  simp only [↓ NoI.wrOf wNoI (by
  clear wNoI
  intro pins s σ H xs us Q I r h
  rcases h with h | h | h
  · exact call_reprU hg hr pins s σ H xs us Q I r h
  · exact SkE.call_repr_int pins s σ H xs us Q I r h
  · exact call_reprV hg hr pins s σ H xs us Q I r h
  )]
  intro _ hNoI
  simpa using (fun (_ : NoI.Sg) => hNoI) [5]
theorem cb_reprX {d : D} (h1 : rd s.mem x = some d) (hl : (∃ ds, d = .list ds) ∨ ∃ ds, d = .tuple ds) (h2 : d.showable = true) (h3 : d.hasDict = false) (h4 : d.depth ≤ 60) (h5 : d.shown.length ≤ sizeLine) (k : Φ (.dat (.str d.shown)) s) : CbS K Zc (rReprW K) [x] s Φ :=
  fun ad H σ vs Q I r p => .inl (cb_repr h1 hl h2 h3 h4 h5 k ad H σ vs Q I r p)
theorem cb_reprI {i : Int} (h1 : rd s.mem x = some (.int i)) (hi : i.natAbs.log2 < 1920) (k : Φ (.dat (.str (toString i : String))) s) : CbS K Zc (rReprW K) [x] s Φ := by
  intro ad H σ vs Q I r p
  obtain ⟨v, rfl, r1⟩ := vrs1 r
  exact .inr (.inl ⟨i, by rw [rd_int I.mr r1 h1], hi, p.val I k (sv := .dat _) (.str _)⟩)
theorem cb_reprV {d : D} (h1 : rd s.mem x = some d) (z : Sh d) (hz : d.depth ≤ 40) (k : Φ (.dat (.str d.shown)) s) : CbS K Zc (rReprW K) [x] s Φ := by
  intro ad H σ vs Q I r p
  obtain ⟨v, rfl, r1⟩ := vrs1 r
  exact .inr (.inr ⟨v, d, rfl, rd_D I.mr r1 h1, z, hz, p.val I k (sv := .dat _) (.str _)⟩)
end
end SH

namespace SH
open PySem PySem.Spec PyProof.Rows L2
variable [WW]
/-! ### isinstance(x, T), T a built-in type -/
def tyD : D → String
  | .none => "NoneType"
  | .bool _ => "bool"
  | .int _ => "int"
  | .str _ => "str"
  | .list _ => "list"
  | .tuple _ => "tuple"
  | .dict _ => "dict"
def isiB (a b : String) : Bool := a == b || (a == "bool" && b == "int")
theorem tyD_mem (d : D) : tyD d ∈ ["NoneType", "bool", "int", "str", "list", "tuple", "dict"] := by cases d <;> simp [tyD]
theorem kit_isi {T : String} (hT : T = "tuple" ∨ T = "str" ∨ T = "int" ∨ T = "bool" ∨ T = "list" ∨ T = "dict") (d : D) : kitB (tyD d) T = some (isiB (tyD d) T) := by
  refine NoI.keep (fun _ wNoI => ?_) ?_
  simp only [↓ NoI.wrOf wNoI (by
  clear wNoI
  have h : ∀ a ∈ ["NoneType", "bool", "int", "str", "list", "tuple", "dict"], ∀ t ∈ ["tuple", "str", "int", "bool", "list", "dict"], kitB a t = some (isiB a t) := by decide +kernel
  exact h _ (tyD_mem d) T (by simpa using hT)
  )]
  intro _ hNoI
  simpa using (fun (_ : NoI.Sg) => hNoI) [5]
/-- isinstance(x, c), x may be a dict with tuple keys -/
def rIsiX (K : PySem.W.Frag) : List V → Hp → VK → Prop := fun xs H Q => rIsi K xs H Q ∨ ∃ a ys c u b, xs = [.ref a, c] ∧ ClsV c u ∧ Rd H a (DXo a ys) ∧ PySem.W.kitOne K (.type "dict") u = some b ∧ Q (.bl b) H
theorem call_isiX {X : Cx} : CallR X (.builtin "isinstance") (@rIsiX ⟨X.w⟩ X.K) := by
  refine NoI.keep (fun _ wNoI => ?_) ?_
  simp only [↓ NoI.wrOf wNoI (by
  clear wNoI
  intro pins s σ H xs us Q I r h
  rcases h with h | ⟨a, ys, c, u, b, rfl, k, e, h1, q⟩
  · exact call_isi pins s σ H xs us Q I r h
  · obtain ⟨u1, u2, rfl, r1, r2⟩ := vals2 r
    have e2 := k.eq r2
    subst e2
    cases (show u1 = Value.ref a from r1)
    obtain ⟨_, _, _, _, o, es, ep, g1, g2, _⟩ := @dxo_at ⟨X.w⟩ _ _ _ _ _ _ I.hok e
    exact PySem.W.kia_one PySem.W.kitx_dict I.kIn ⟨o, g1, g2.1⟩ h1 (fun z => nomatch z) fun tk => ⟨.bl b, H, I.tok tk, rfl, q⟩
  )]
  intro _ hNoI
  simpa using (fun (_ : NoI.Sg) => hNoI) [5]
theorem tyx_of {K : PySem.W.Frag} {H : Hp} {v : V} {d : D} (h : DV K H v d) : TyX K H v (.type (tyD d)) ∨ ∃ a xs es, v = .ref a ∧ Rd H a (DXo a xs) ∧ d = .dict es := by
  refine NoI.keep (fun _ wNoI => ?_) ?_
  simp only [↓ NoI.wrOf wNoI (by
  clear wNoI
  cases h with
  | non => exact .inl (.base .non)
  | bl b => exact .inl (.base (.bl b))
  | int i => exact .inl (.base (.int i))
  | str x => exact .inl (.base (.str x))
  | lst h1 h2 => exact .inl (.base (.lst h1))
  | tup h1 h2 =>
    rcases h1 with ⟨_, o, _, h1⟩ | ⟨_, h1⟩
    · exact .inl (.fTuple h1)
    · exact .inl (.base (.tup h1))
  | dK h1 h2 h3 =>
    rcases h1 with h1 | ⟨_, h1⟩
    · exact .inl (.base (.dK h1))
    · exact .inl (.fDict h1)
  | dX h1 h2 => exact .inr ⟨_, _, _, rfl, h1, rfl⟩
  )]
  intro _ hNoI
  simpa using (fun (_ : NoI.Sg) => hNoI) [5]
section
variable {K : PySem.W.Frag} {Zc : Addr → Prop} {s : S} {Φ : SV → S → Prop}
theorem ev_isi {te : TE} {T : String} (hT : T = "tuple" ∨ T = "str" ∨ T = "int" ∨ T = "bool" ∨ T = "list" ∨ T = "dict") (h : EvS K Zc te s fun x s1 => ∃ d, rd s1.mem x = some d ∧ Φ (.dat (.bool (isiB (tyD d) T))) s1) :
    EvS K Zc (tCB (rIsiX K) (tCons te (tCons (tC (.ty T)) tNil))) s Φ := by
  refine NoI.keep (fun _ wNoI => ?_) ?_
  simp only [↓ NoI.wrOf wNoI (by
  clear wNoI
  intro ad H σ Q I p
  refine h ad H σ _ I fun v ad1 H1 x s1 h1 I1 F1 r1 => ?_
  obtain ⟨d, e, k⟩ := h1
  have hk := kit_ty (K := K) (kit_isi hT d)
  rcases tyx_of (rd_D I1.mr r1 e) with z | ⟨a, xs, es, rfl, z, rfl⟩
  · exact .inl ⟨v, .ty T, .type (tyD d), .type T, _, rfl, .ty T, z, hk, (p.step F1).val I1 k (sv := .dat _) (.bl _)⟩
  · exact .inr ⟨a, xs, .ty T, .type T, _, rfl, .ty T, z, hk, (p.step F1).val I1 k (sv := .dat _) (.bl _)⟩
  )]
  intro _ hNoI
  simpa using (fun (_ : NoI.Sg) => hNoI) [5]
end
end SH

set_option maxHeartbeats 1000000
/-! enumerate(xs), xs a list or a tuple -/
namespace SH
open PySem PySem.Spec PyProof.Rows L2
variable [WW]
open PySem.AutoSeq1 (wpAny_loadPart')
section
variable {prog : Program} {w : World} {A : Around} {E : Value → Shared → Prop} {s : Shared}
end
section
variable {K : PySem.W.Frag} {Zc : Addr → Prop} {s : S}
end
end SH

/-! sorted(xs), xs a list of data of one kind -/
namespace SH
open PySem PySem.Spec PyProof.Rows L2
variable [WW]
abbrev VD := V × D
def rSortD (K : PySem.W.Frag) : List V → Hp → VK → Prop := fun xs H Q => ∃ (a : Addr) (vs : List V) (ds : List D), xs = [.ref a] ∧ SqL K H a vs ∧ DpAll K H vs ds ∧ PySem.W.AllAlike ds ∧ PySem.W.Sortable ds ∧ (∀ d ∈ ds, d.depth ≤ 50) ∧ ds.length ≤ sizeLine ∧
  ∀ p, H p = none → Q (.ref p) (upd H p (.lst (((vs.zip ds).mergeSort (PySem.W.dataLe false fun q : VD => q.2)).map (·.1))))
theorem each_zip {K : PySem.W.Frag} {H : Hp} {X : Cx} : ∀ {vs : List V} {ds : List D} {us : List Value}, vs.length = ds.length → Vals vs us → PySem.W.EachIs (fun (u : Value) (q : VD) => RelV q.1 u) us (vs.zip ds)
  | [], _, _, _, .nil => .nil
  | v :: vs, d :: ds, _, h, .cons r t => .cons r (each_zip (K := K) (H := H) (X := X) (by simpa using h) t)
  | v :: vs, [], _, h, _ => by simp at h
theorem each_reads {X : Cx} {pins : List (Addr × Obj)} {σ : L2.St} {H : Hp} {s : Shared} (I : L2.Inv X pins σ H s) : ∀ {vs : List V} {ds : List D} {us : List Value}, DpAll X.K H vs ds → Vals vs us → PySem.W.EachIs (fun (u : Value) (q : VD) => ∃ as, Reads s.heap u q.2 as) us (vs.zip ds)
  | _, _, _, .nil, .nil => .nil
  | _, _, _, .cons h1 h2, .cons r t => .cons (Dp.reads I _ _ _ h1 r) (each_reads I h2 t)
theorem vals_of_each : ∀ {us : List Value} {qs : List VD}, PySem.W.EachIs (fun (u : Value) (q : VD) => RelV q.1 u) us qs → Vals (qs.map (·.1)) us
  | _, _, .nil => .nil
  | _, _, .cons r t => .cons r (vals_of_each t)
theorem dpa_len {K : PySem.W.Frag} {H : Hp} : ∀ {vs : List V} {ds : List D}, DpAll K H vs ds → vs.length = ds.length
  | _, _, .nil => rfl
  | _, _, .cons _ t => by simp [dpa_len t]
theorem call_sortD {X : Cx} {k : Nat} (hr : Room k X.A) : CallR X (.builtin "sorted") (rSortD X.K) := by
  refine NoI.keep (fun _ wNoI => ?_) ?_
  simp only [↓ NoI.wrOf wNoI (by
  clear wNoI
  intro pins s σ H xs us Q I r h
  obtain ⟨a, vs, ds, rfl, hq, hd, hal, hsr, hdp, hz, q⟩ := h
  rw [Vals.ref1 r]
  obtain ⟨its, rv, pl, _⟩ := I.list hq
  have hu := hr.units
  have hl := dpa_len hd
  have hsnd : (vs.zip ds).map (fun q : VD => q.2) = ds := List.map_snd_zip (by omega)
  refine PySem.W.sorted_data (enc := fun q : VD => q.2) (R := fun (u : Value) (q : VD) => RelV q.1 u) (bs := vs.zip ds) pl.isList (each_zip (K := X.K) (H := H) (X := X) hl rv) (each_reads I hd rv) (by rw [hsnd]; exact hal) (by rw [hsnd]; exact hsr)
    (by rw [List.length_zip]; omega) (fun b hb => ?_) fun out ho eo => ?_
  · have : b.2 ∈ ds := by rw [← hsnd]; exact List.mem_map_of_mem hb
    have := hdp _ this
    omega
  · obtain ⟨ep, he'⟩ := PyProof.Rows.sortedAll_at s.heap its out.toArray
    have rv2 := vals_of_each eo
    have hlen : (((vs.zip ds).mergeSort (PySem.W.dataLe false fun q : VD => q.2)).map (·.1)).length ≤ sizeLine := by
      rw [List.length_map, List.length_mergeSort, List.length_zip]; omega
    exact ⟨.ref _, upd H (s.heap.objs.size + 1) (.lst _), I.laid (t' := s.toks) (fun _ _ => PyProof.Rows.sortedAll_old) (Nat.le_succ _) ⟨hlen, out, ep, rv2, by simpa using he'⟩, rfl, q _ (I.hok.fresh (Nat.le_succ _))⟩
  )]
  intro _ hNoI
  simpa using (fun (_ : NoI.Sg) => hNoI) [5]
section
variable {K : PySem.W.Frag} {Zc : Addr → Prop} {s : S} {x y : SV} {Φ : SV → S → Prop}
theorem dvs_mem {H : Hp} : ∀ {vs : List V} {ds : List D}, DVs K H vs ds → ∀ q ∈ vs.zip ds, DV K H q.1 q.2
  | _, _, .nil, q, h => by simp at h
  | _, _, .cons r t, q, h => by
    rcases List.mem_cons.mp h with rfl | h
    · exact r
    · exact dvs_mem t q h
theorem dvs_of_all {H : Hp} : ∀ {qs : List VD}, (∀ q ∈ qs, DV K H q.1 q.2) → DVs K H (qs.map (·.1)) (qs.map (·.2))
  | [], _ => .nil
  | q :: qs, h => .cons (h q List.mem_cons_self) (dvs_of_all fun p hp => h p (List.mem_cons_of_mem _ hp))
def sortD (ds : List D) : List D := ds.mergeSort (PySem.W.dataLe false id)
theorem cb_sortD {ds : List D} (h1 : rd s.mem x = some (.list ds)) (ha : PySem.W.AllAlike ds) (hs : PySem.W.Sortable ds) (hd : ∀ d ∈ ds, d.depth ≤ 50) (hn : PyData.hasDictAll ds = false) (hz : ds.length ≤ sizeLine)
    (k : Φ (.own s.mem.length) ⟨s.sl, s.mem ++ [some (.list (sortD ds))]⟩) : CbS K Zc (rSortD K) [x] s Φ := by
  refine NoI.keep (fun _ wNoI => ?_) ?_
  simp only [↓ NoI.wrOf wNoI (by
  clear wNoI
  intro ad H σ vs Q I r p
  obtain ⟨v, rfl, r1⟩ := vrs1 r
  obtain ⟨a, us, rfl, e1, d1⟩ := rd_lst I.mr r1 h1
  refine ⟨a, us, ds, rfl, SqL.of e1, dpAll_of _ _ (dpAll_mono Fz_le _ _ d1) hn, ha, hs, hd, hz, fun q hq => p.lst I k hq ?_⟩
  have e : ((us.zip ds).mergeSort (PySem.W.dataLe false fun q : VD => q.2)).map (·.2) = sortD ds := by
    unfold sortD
    have h2 : (us.zip ds).map (fun q : VD => q.2) = ds := List.map_snd_zip (by rw [dpAll_len d1]; exact Nat.le_refl _)
    conv => rhs; rw [← h2]
    exact List.map_mergeSort (fun a _ b _ => rfl)
  rw [← e]
  exact dvs_of_all fun q hq => dvs_mem d1 q ((List.mergeSort_perm _ _).mem_iff.mp hq)
  )]
  intro _ hNoI
  simpa using (fun (_ : NoI.Sg) => hNoI) [5]
end
end SH

/-! in, not in, of any data -/
namespace SH
open PySem PySem.Spec PyProof.Rows L2
variable [WW]
def rInD (K : PySem.W.Frag) (neg : Bool) : R2 := fun x y H Q => ∃ (d e : D) (ds : List D), seqD e = some ds ∧ Dp K H x d ∧ Dp K H y e ∧ d.canLay0 = true ∧ PyData.canLayAll0 ds = true ∧ d.depth ≤ 60 ∧ Q (.bl (if neg then !(ds.any fun z => PyData.eqv z d) else ds.any fun z => PyData.eqv z d)) H
theorem op_inD {X : Cx} (hu : X.A.units + 64 < cLine) : OpR X (compareOp .In) (rInD X.K false) := by
  refine NoI.keep (fun _ wNoI => ?_) ?_
  simp only [↓ NoI.wrOf wNoI (by
  clear wNoI
  intro pins s σ H x y v u Q I rx ry h
  obtain ⟨d, e, ds, hs, hd, he, sd, se, hz, q⟩ := h
  obtain ⟨as, r1⟩ := Dp.reads I d x v hd rx
  obtain ⟨bs, r2⟩ := Dp.reads I e y u he ry
  cases e with
  | list es => cases hs; exact SeqAt.in_list_reads r2 r1 se sd (by omega) ⟨.bl _, H, I, rfl, q⟩
  | tuple es => cases hs; exact SeqAt.in_tuple_reads r2 r1 se sd (by omega) ⟨.bl _, H, I, rfl, q⟩
  | none => cases hs
  | bool _ => cases hs
  | int _ => cases hs
  | str _ => cases hs
  | dict _ => cases hs
  )]
  intro _ hNoI
  simpa using (fun (_ : NoI.Sg) => hNoI) [5]
def rInX (K : PySem.W.Frag) (neg : Bool) : R2 := fun x y H Q => rInU K neg x y H Q ∨ rInD K neg x y H Q ∨ rInV K neg x y H Q
theorem op_inX {X : Cx} (hu : X.A.units + 64 < cLine) : OpR X (compareOp .In) (@rInX ⟨X.w⟩ X.K false) := opr_or (op_inU (by omega)) (opr_or (op_inD hu) (op_inV hu))
section
variable {K : PySem.W.Frag} {Zc : Addr → Prop} {s : S} {x y : SV} {Φ : SV → S → Prop}
theorem os_inA {neg : Bool} {d e : D} {ds : List D} (h1 : rd s.mem x = some d) (h2 : rd s.mem y = some e) (hs : seqD e = some ds) (sd : d.canLay0 = true) (se : PyData.canLayAll0 ds = true) (hz : d.depth ≤ 60)
    (k : Φ (.dat (.bool (if neg then !(ds.any fun z => PyData.eqv z d) else ds.any fun z => PyData.eqv z d))) s) : OpS K Zc (rInX K neg) x y s Φ := by
  refine NoI.keep (fun _ wNoI => ?_) ?_
  simp only [↓ NoI.wrOf wNoI (by
  clear wNoI
  intro ad H σ v u Q I r1 r2 p
  have hn : e.hasDict = false := by
    cases e with
    | list es => cases hs; simpa [PyData.hasDict] using PyData.hasDict_of_canLay (.list ds) (by simpa [PyData.canLay0] using se)
    | tuple es => cases hs; simpa [PyData.hasDict] using PyData.hasDict_of_canLay (.tuple ds) (by simpa [PyData.canLay0] using se)
    | none => cases hs
    | bool _ => cases hs
    | int _ => cases hs
    | str _ => cases hs
    | dict _ => cases hs
  exact .inr (.inl ⟨d, e, ds, hs, dp_of _ _ (rd_D I.mr r1 h1) (PyData.hasDict_of_canLay _ sd), dp_of _ _ (rd_D I.mr r2 h2) hn, sd, se, hz, p.val I k (sv := .dat _) (.bl _)⟩)
  )]
  intro _ hNoI
  simpa using (fun (_ : NoI.Sg) => hNoI) [5]
end
/-! sorted, all of them -/
def rSortX (K : PySem.W.Frag) : List V → Hp → VK → Prop := fun xs H Q => rSortU K xs H Q ∨ rSortD K xs H Q
theorem call_sortX {X : Cx} {k : Nat} (hr : Room k X.A) : CallR X (.builtin "sorted") (rSortX X.K) := by
  intro pins s σ H vs us Q I r h
  rcases h with h | h
  · exact call_sortU pins s σ H vs us Q I r h
  · exact call_sortD hr pins s σ H vs us Q I r h
section
variable {K : PySem.W.Frag} {Zc : Addr → Prop} {s : S} {x y : SV} {Φ : SV → S → Prop}
theorem cb_sortXD {ds : List D} (h1 : rd s.mem x = some (.list ds)) (ha : PySem.W.AllAlike ds) (hs : PySem.W.Sortable ds) (hd : ∀ d ∈ ds, d.depth ≤ 50) (hn : PyData.hasDictAll ds = false) (hz : ds.length ≤ sizeLine)
    (k : Φ (.own s.mem.length) ⟨s.sl, s.mem ++ [some (.list (sortD ds))]⟩) : CbS K Zc (rSortX K) [x] s Φ :=
  fun ad H σ vs Q I r p => .inr (cb_sortD h1 ha hs hd hn hz k ad H σ vs Q I r p)
end
end SH

/-! dicts whose keys are tuples -/
namespace SH
open PySem PySem.Spec PyProof.Rows L2
section
variable [WW] (K : PySem.W.Frag)
/-- {k: v}, k a tuple -/
def tDisp1 (tk tv : TE) : TE := fun σ H Q => ∀ p, H p = none → tk σ (upd H p (.dK [])) fun x H1 => tv σ H1 fun y H2 => IsXw H2 p [] ∧ ∃ a nk, x = .ref a ∧ DV K H2 (.ref a) nk.data ∧ nk.depth ≤ 8 ∧ Q (.ref p) (upd H2 p (DXo p [(nk, a, y)]))
end
section
variable [WW] {K : PySem.W.Frag} {Zc : Addr → Prop} {s : S} {x y : SV} {Φ : SV → S → Prop}
theorem rd_x {ad : List Addr} {H : Hp} {m : Mem} {v : V} {sv : SV} {es : List (TK × D)} (h : MR K Zc ad H m) (r : VR K Zc ad m H v sv) (e : rd m sv = some (.dict (dx es))) :
    ∃ a xs, v = .ref a ∧ IsX H a xs ∧ KX K (FZ Zc ad m H) xs es := by
  refine NoI.keep (fun _ wNoI => ?_) ?_
  simp only [↓ NoI.wrOf wNoI (by
  clear wNoI
  cases sv with
  | dat z =>
    cases e
    obtain ⟨a, xs, rfl, h1, h2⟩ := dv_x r
    refine ⟨a, xs, rfl, ?_, h1⟩
    rcases h2 with h2 | ⟨h2, h3⟩
    · exact .inl (rd_same h2 Fz_le)
    · exact .inr ⟨h2, rd_same h3 Fz_le⟩
  | own i =>
    obtain ⟨a, o, rfl, _, q2, q3⟩ := rd_obj h r (rd_own e)
    obtain ⟨xs, h1, h2⟩ := cell_x q3
    refine ⟨a, xs, rfl, ?_, h1⟩
    rcases h2 with rfl | ⟨h2, rfl⟩
    · exact .inl (.inl q2)
    · exact .inr ⟨h2, .inl q2⟩
  | ro _ => cases e
  | rng _ _ => cases e
  | exn _ _ _ => cases e
  | un => cases e
  )]
  intro _ hNoI
  simpa using (fun (_ : NoI.Sg) => hNoI) [5]
theorem ev_disp1 {tk tv : TE} (h : EvS K Zc tk ⟨s.sl, s.mem ++ [some (.dict [])]⟩ (asD fun kd s1 => EvS K Zc tv s1 (asD fun vd s2 => s2.mem[s.mem.length]? = some (some (.dict [])) ∧ ∃ nk : TK, kd = kx nk ∧ (NestedKey.tup nk).depth ≤ 8 ∧
    Φ (.own s.mem.length) ⟨s2.sl, s2.mem.set s.mem.length (some (.dict (dx [(nk, vd)])))⟩))) : EvS K Zc (tDisp1 K tk tv) s Φ := by
  refine NoI.keep (fun _ wNoI => ?_) ?_
  simp only [↓ NoI.wrOf wNoI (by
  clear wNoI
  intro ad H σ Q I p pa hpa
  have I1 := I.newO (ds := .dict []) hpa (.dK (kvs := []) (es := []) rfl .nil)
  have F1 : Frm Zc s.mem.length ad s.mem H (adN ad s.mem pa) (s.mem ++ [some (.dict [])]) (upd H pa (.dK [])) := Frm.newO I.mr hpa
  refine ev_asD (Φ := fun sv s1 => ∃ kd, sv = .dat kd ∧ EvS K Zc tv s1 (asD fun vd s2 => s2.mem[s.mem.length]? = some (some (.dict [])) ∧ ∃ nk : TK, kd = kx nk ∧ (NestedKey.tup nk).depth ≤ 8 ∧
    Φ (.own s.mem.length) ⟨s2.sl, s2.mem.set s.mem.length (some (.dict (dx [(nk, vd)])))⟩)) h (fun d s' q => ⟨d, rfl, q⟩) _ _ σ _ I1 ?_
  rintro v1 ad1 H1 sv s1 ⟨kd, rfl, h1⟩ I2 F2 r1
  refine ev_asD (Φ := fun sv s2 => ∃ vd, sv = .dat vd ∧ s2.mem[s.mem.length]? = some (some (.dict [])) ∧ ∃ nk : TK, kd = kx nk ∧ (NestedKey.tup nk).depth ≤ 8 ∧
    Φ (.own s.mem.length) ⟨s2.sl, s2.mem.set s.mem.length (some (.dict (dx [(nk, vd)])))⟩) h1 (fun d s' q => ⟨d, rfl, q⟩) ad1 H1 σ _ I2 ?_
  rintro v2 ad2 H2 sv s2 ⟨vd, rfl, e, nk, rfl, hd, k⟩ I3 F3 r2
  have l1 : s.mem.length < (s.mem ++ [some (PyData.dict [])]).length := by simp
  have aD : ad2[s.mem.length]? = some pa := by rw [F3.pre _ (Nat.lt_of_lt_of_le l1 F2.le), F2.pre _ l1, adN_at I.mr.adl]
  obtain ⟨b, o, q1, q2, q3⟩ := I3.mr.cell _ _ e
  rw [aD] at q1
  cases q1
  obtain ⟨xs, c1, c2⟩ := cell_x (es := []) q3
  cases c1
  have rk : DV K (FZ Zc ad2 s2.mem H2) v1 (kx nk) := r1.frm F3
  obtain ⟨ka, rfl⟩ : ∃ ka, v1 = .ref ka := by cases rk; exact ⟨_, rfl⟩
  refine ⟨?_, ka, .tup nk, rfl, dp_mono Fz_le _ _ rk, hd, ?_⟩
  · rcases c2 with rfl | ⟨_, rfl⟩
    · exact .inl q2
    · exact .inr ⟨rfl, q2⟩
  · have F13 := (F1.trans F2 (by simp)).trans F3 (Nat.le_trans (by simp) F2.le)
    refine p _ ad2 _ (.own s.mem.length) _ k (I3.put e aD (.dX (KX.dks (.cons rk r2 .nil)))) (F13.trans (Frm.put e aD) F13.le) ?_
    have := (List.getElem?_eq_some_iff.mp e).1
    exact ⟨by simpa using this, pa, aD, rfl⟩
  )]
  intro _ hNoI
  simpa using (fun (_ : NoI.Sg) => hNoI) [5]
/-- {} -/
theorem ev_dnew (k : Φ (.own s.mem.length) ⟨s.sl, s.mem ++ [some (.dict [])]⟩) : EvS K Zc tDNewK s Φ := by
  intro ad H σ Q I p q hq
  exact p.cell I k hq (.dK (kvs := []) (es := []) rfl .nil)
end
end SH

/-! more built-ins; statements that are never met; any data -/
namespace SH
open PySem PySem.Spec PyProof.Rows L2
variable [WW]
def rMin2 : List V → Hp → VK → Prop := fun xs H Q => ∃ i j, xs = [.int i, .int j] ∧ Q (.int (if j < i then j else i)) H
def rMax2 : List V → Hp → VK → Prop := fun xs H Q => ∃ i j, xs = [.int i, .int j] ∧ Q (.int (if j > i then j else i)) H
def rMinU (K : PySem.W.Frag) : List V → Hp → VK → Prop := fun xs H Q => rMin2 xs H Q ∨ rMin K xs H Q
def rMaxU (K : PySem.W.Frag) : List V → Hp → VK → Prop := fun xs H Q => rMax2 xs H Q ∨ rMax K xs H Q
theorem call_minU {X : Cx} (hc : X.calm = true) : CallR X (.builtin "min") (rMinU X.K) := by
  intro pins s σ H xs us Q I r h
  rcases h with h | h
  · exact call_min2 hc pins s σ H xs us Q I r h
  · exact cr_min hc pins s σ H xs us Q I r h
def tUpper (to : TE) : TE := tM0 (fun x xs H Q => ∃ a, x = .str a ∧ xs = [] ∧ a.length ≤ 5592405 ∧ Q (.str (Txt.upper a)) H) to
section
variable {K : PySem.W.Frag} {Zc : Addr → Prop} {s : S} {x y : SV} {Φ : SV → S → Prop}
theorem cb_all {bs : List Bool} (h1 : rd s.mem x = some (.list (bs.map PyData.bool))) (k : Φ (.dat (.bool (bs.all id))) s) : CbS K Zc (rAll K) [x] s Φ := by
  refine NoI.keep (fun _ wNoI => ?_) ?_
  simp only [↓ NoI.wrOf wNoI (by
  clear wNoI
  intro ad H σ vs Q I r p
  obtain ⟨v, rfl, r1⟩ := vrs1 r
  obtain ⟨a, us, rfl, e1, d1⟩ := rd_lst I.mr r1 h1
  rw [dpAll_bools d1] at e1
  exact ⟨a, bs, rfl, SqL.of e1, p.val I k (sv := .dat _) (.bl _)⟩
  )]
  intro _ hNoI
  simpa using (fun (_ : NoI.Sg) => hNoI) [5]
theorem cb_any {bs : List Bool} (h1 : rd s.mem x = some (.list (bs.map PyData.bool))) (k : Φ (.dat (.bool (bs.any id))) s) : CbS K Zc (rAny K) [x] s Φ := by
  refine NoI.keep (fun _ wNoI => ?_) ?_
  simp only [↓ NoI.wrOf wNoI (by
  clear wNoI
  intro ad H σ vs Q I r p
  obtain ⟨v, rfl, r1⟩ := vrs1 r
  obtain ⟨a, us, rfl, e1, d1⟩ := rd_lst I.mr r1 h1
  rw [dpAll_bools d1] at e1
  exact ⟨a, bs, rfl, SqL.of e1, p.val I k (sv := .dat _) (.bl _)⟩
  )]
  intro _ hNoI
  simpa using (fun (_ : NoI.Sg) => hNoI) [5]
theorem cb_min2 {i j : Int} (h1 : rd s.mem x = some (.int i)) (h2 : rd s.mem y = some (.int j)) (k : Φ (.dat (.int (min i j))) s) : CbS K Zc (rMinU K) [x, y] s Φ := by
  refine NoI.keep (fun _ wNoI => ?_) ?_
  simp only [↓ NoI.wrOf wNoI (by
  clear wNoI
  intro ad H σ vs Q I r p
  obtain ⟨v, u, rfl, r1, r2⟩ := vrs2 r
  rw [rd_int I.mr r1 h1, rd_int I.mr r2 h2]
  refine .inl ⟨i, j, rfl, ?_⟩
  rw [show (if j < i then j else i) = min i j by split <;> omega]
  exact p.val I k (sv := .dat _) (.int _)
  )]
  intro _ hNoI
  simpa using (fun (_ : NoI.Sg) => hNoI) [5]
theorem cb_max2 {i j : Int} (h1 : rd s.mem x = some (.int i)) (h2 : rd s.mem y = some (.int j)) (k : Φ (.dat (.int (max i j))) s) : CbS K Zc (rMaxU K) [x, y] s Φ := by
  refine NoI.keep (fun _ wNoI => ?_) ?_
  simp only [↓ NoI.wrOf wNoI (by
  clear wNoI
  intro ad H σ vs Q I r p
  obtain ⟨v, u, rfl, r1, r2⟩ := vrs2 r
  rw [rd_int I.mr r1 h1, rd_int I.mr r2 h2]
  refine .inl ⟨i, j, rfl, ?_⟩
  rw [show (if j > i then j else i) = max i j by split <;> omega]
  exact p.val I k (sv := .dat _) (.int _)
  )]
  intro _ hNoI
  simpa using (fun (_ : NoI.Sg) => hNoI) [5]
theorem ev_upper {to : TE} (h : EvS K Zc to s fun x s1 => ∃ z, rd s1.mem x = some (.str z) ∧ z.length ≤ 5592405 ∧ Φ (.dat (.str (Txt.upper z))) s1) : EvS K Zc (tUpper to) s Φ := by
  refine NoI.keep (fun _ wNoI => ?_) ?_
  simp only [↓ NoI.wrOf wNoI (by
  clear wNoI
  intro ad H σ Q I p
  refine h ad H σ _ I fun v ad1 H1 x s1 h1 I1 F1 r1 => ?_
  obtain ⟨z, e, hz, k⟩ := h1
  rw [rd_str I1.mr r1 e]
  exact ⟨⟨z, rfl⟩, z, rfl, rfl, hz, (p.step F1).val I1 k (sv := .dat _) (.str _)⟩
  )]
  intro _ hNoI
  simpa using (fun (_ : NoI.Sg) => hNoI) [5]
end
/-! ### any data: strings of plain signs, ints of no great size -/
mutual
def asc : D → Bool
  | .none | .bool _ => true
  | .int i => decide (i.natAbs < 10 ^ 50)
  | .str x => x.cps.toList.all fun c => decide (c < 128)
  | .list xs | .tuple xs => ascAll xs
  | .dict kvs => ascKv kvs
def ascAll : List D → Bool
  | [] => true
  | x :: xs => asc x && ascAll xs
def ascKv : List (D × D) → Bool
  | [] => true
  | (k, v) :: r => asc k && asc v && ascKv r
end
theorem int_len {i : Int} (h : i.natAbs < 10 ^ 50) : (toString i : Str).length ≤ 51 := by
  have := int_text_length_le10 (a := i) (k := 50) (by decide) h
  show (Str.ofString (toString i)).length ≤ 51
  rw [PySem.ofString_length]
  exact this
theorem asc_all : ∀ {ds : List D}, ascAll ds = true ↔ ∀ d ∈ ds, asc d = true
  | [] => by simp [ascAll]
  | d :: ds => by simp [ascAll, asc_all (ds := ds)]
theorem wt_app : ∀ (xs ys : List D), PyData.weightAll (xs ++ ys) = PyData.weightAll xs + PyData.weightAll ys
  | [], ys => by simp [PyData.weightAll]
  | x :: xs, ys => by simp only [List.cons_append, PyData.weightAll, wt_app xs ys]; omega
theorem dp_app : ∀ (xs ys : List D), PyData.depthAll (xs ++ ys) = max (PyData.depthAll xs) (PyData.depthAll ys)
  | [], ys => by simp [PyData.depthAll]
  | x :: xs, ys => by simp only [List.cons_append, PyData.depthAll, dp_app xs ys]; omega
theorem wt_len : ∀ (xs : List D), xs.length ≤ PyData.weightAll xs
  | [] => Nat.zero_le _
  | x :: xs => by simp only [List.length_cons, PyData.weightAll]; have := wt_len xs; omega
theorem wt_mem : ∀ {xs : List D} {d : D}, d ∈ xs → d.weight + 1 ≤ PyData.weightAll xs
  | x :: xs, d, h => by
    simp only [PyData.weightAll]
    rcases List.mem_cons.mp h with rfl | h
    · omega
    · have := wt_mem h; omega
theorem dp_mem : ∀ {xs : List D} {d : D}, d ∈ xs → d.depth ≤ PyData.depthAll xs
  | x :: xs, d, h => by
    simp only [PyData.depthAll]
    rcases List.mem_cons.mp h with rfl | h
    · omega
    · have := dp_mem h; omega
theorem dp_le : ∀ {xs : List D} {k : Nat}, (∀ d ∈ xs, d.depth ≤ k) → PyData.depthAll xs ≤ k
  | [], _, _ => Nat.zero_le _
  | x :: xs, k, h => by
    simp only [PyData.depthAll]
    have := h x List.mem_cons_self
    have := dp_le (xs := xs) fun d hd => h d (List.mem_cons_of_mem _ hd)
    omega
structure Any (W k : Nat) (d : D) : Prop where
  as : asc d = true
  wt : d.weight ≤ W
  dp : d.depth ≤ k
structure AnyA (W k : Nat) (ds : List D) : Prop where
  as : ascAll ds = true
  wt : PyData.weightAll ds ≤ W
  dp : PyData.depthAll ds ≤ k
theorem Any.less {W V k j : Nat} {d : D} (h : Any W k d) (a : W ≤ V) (b : k ≤ j) : Any V j d := ⟨h.as, Nat.le_trans h.wt a, Nat.le_trans h.dp b⟩
theorem AnyA.less {W V k j : Nat} {d : List D} (h : AnyA W k d) (a : W ≤ V) (b : k ≤ j) : AnyA V j d := ⟨h.as, Nat.le_trans h.wt a, Nat.le_trans h.dp b⟩
theorem AnyA.nil {W k : Nat} : AnyA W k [] := ⟨rfl, Nat.zero_le _, Nat.zero_le _⟩
theorem AnyA.cons {W V k : Nat} {d : D} {ds : List D} (h : Any W k d) (t : AnyA V k ds) : AnyA (W + 1 + V) k (d :: ds) :=
  ⟨by simp [ascAll, h.as, t.as], by simp only [PyData.weightAll]; have := h.wt; have := t.wt; omega, by simp only [PyData.depthAll]; have := h.dp; have := t.dp; omega⟩
theorem AnyA.app {W V k : Nat} {ds es : List D} (h : AnyA W k ds) (t : AnyA V k es) : AnyA (W + V) k (ds ++ es) :=
  ⟨asc_all.mpr fun d hd => (List.mem_append.mp hd).elim (asc_all.mp h.as d) (asc_all.mp t.as d), by rw [wt_app]; have := h.wt; have := t.wt; omega, by rw [dp_app]; have := h.dp; have := t.dp; omega⟩
theorem AnyA.tup {W k : Nat} {ds : List D} (h : AnyA W k ds) : Any W (k + 1) (.tuple ds) := ⟨by simpa [asc] using h.as, by simpa [PyData.weight] using h.wt, by have := h.dp; simp [PyData.depth]; omega⟩
theorem AnyA.lst {W k : Nat} {ds : List D} (h : AnyA W k ds) : Any W (k + 1) (.list ds) := ⟨by simpa [asc] using h.as, by simpa [PyData.weight] using h.wt, by have := h.dp; simp [PyData.depth]; omega⟩
theorem Any.items {W k : Nat} {ds : List D} (h : Any W k (.tuple ds)) : AnyA W (k - 1) ds ∧ 1 ≤ k := by
  have h3 := h.dp
  simp only [PyData.depth] at h3
  exact ⟨⟨by simpa [asc] using h.as, by simpa [PyData.weight] using h.wt, by omega⟩, by omega⟩
theorem AnyA.sub {W k : Nat} {ds es : List D} (h : AnyA W k ds) (s : List.Sublist es ds) : AnyA W k es := by
  refine NoI.keep (fun _ wNoI => ?_) ?_
  simp only [↓ NoI.wrOf wNoI (by
  clear wNoI
  have key : ∀ {a b : List D}, List.Sublist a b → PyData.weightAll a ≤ PyData.weightAll b := by
    intro a b s
    induction s with
    | slnil => exact Nat.le_refl _
    | cons x _ ih => simp only [PyData.weightAll]; omega
    | cons_cons x _ ih => simp only [PyData.weightAll]; omega
  exact ⟨asc_all.mpr fun d hd => asc_all.mp h.as d (s.subset hd), Nat.le_trans (key s) h.wt, dp_le fun d hd => Nat.le_trans (dp_mem (s.subset hd)) h.dp⟩
  )]
  intro _ hNoI
  simpa using (fun (_ : NoI.Sg) => hNoI) [5]
theorem AnyA.mem {W k : Nat} {ds : List D} {d : D} (h : AnyA W k ds) (hd : d ∈ ds) : Any W k d := ⟨asc_all.mp h.as d hd, by have := wt_mem hd; have := h.wt; omega, Nat.le_trans (dp_mem hd) h.dp⟩
theorem AnyA.len {W k : Nat} {ds : List D} (h : AnyA W k ds) : ds.length ≤ W := Nat.le_trans (wt_len ds) h.wt
theorem AnyA.of {V k : Nat} : ∀ {ds : List D}, (∀ d ∈ ds, Any V k d) → AnyA ((V + 1) * ds.length) k ds
  | [], _ => .nil
  | d :: ds, h => by
    have := AnyA.cons (h d List.mem_cons_self) (AnyA.of (ds := ds) fun e he => h e (List.mem_cons_of_mem _ he))
    rw [List.length_cons, Nat.mul_add, Nat.mul_one, Nat.add_comm]
    exact this
mutual
theorem asc_show : ∀ d : D, asc d = true → d.leavesShort 64 = true ∧ d.showable = true
  | .none, _ => ⟨rfl, rfl⟩
  | .bool _, _ => ⟨rfl, rfl⟩
  | .int i, h => by
    have h : i.natAbs < 10 ^ 50 := by simpa [asc] using h
    refine ⟨?_, ?_⟩
    · have h5 := Nat.le_trans (int_len h) (show 51 ≤ 64 by decide)
      simp only [PyData.leavesShort, PyData.shown]
      exact decide_eq_true h5
    · simp only [PyData.showable, decide_eq_true_eq]
      by_cases z : i.natAbs = 0
      · rw [z]; decide
      · exact (Nat.log2_lt z).mpr (Nat.lt_trans h (by decide +kernel))
  | .str x, h => by
    refine ⟨?_, rfl⟩
    simp only [asc, List.all_eq_true, decide_eq_true_eq] at h
    simp only [PyData.leavesShort, List.all_eq_true, decide_eq_true_eq]
    intro c hc
    have := h c hc
    omega
  | .list xs, h => by simpa [PyData.leavesShort, PyData.showable] using ascAll_show xs (by simpa [asc] using h)
  | .tuple xs, h => by simpa [PyData.leavesShort, PyData.showable] using ascAll_show xs (by simpa [asc] using h)
  | .dict xs, h => by simpa [PyData.leavesShort, PyData.showable] using ascKv_show xs (by simpa [asc] using h)
theorem ascAll_show : ∀ ds : List D, ascAll ds = true → PyData.leavesShortAll 64 ds = true ∧ PyData.showableAll ds = true
  | [], _ => ⟨rfl, rfl⟩
  | d :: ds, h => by
    simp only [ascAll, Bool.and_eq_true] at h
    have h1 := asc_show d h.1
    have h2 := ascAll_show ds h.2
    simp [PyData.leavesShortAll, PyData.showableAll, h1, h2]
theorem ascKv_show : ∀ ds : List (D × D), ascKv ds = true → PyData.leavesShortKv 64 ds = true ∧ PyData.showableKv ds = true
  | [], _ => ⟨rfl, rfl⟩
  | (k, v) :: ds, h => by
    simp only [ascKv, Bool.and_eq_true] at h
    have h1 := asc_show k h.1.1
    have h2 := asc_show v h.1.2
    have h3 := ascKv_show ds h.2
    simp [PyData.leavesShortKv, PyData.showableKv, h1, h2, h3]
end
theorem Any.shown {W k : Nat} {d : D} (h : Any W k d) : d.shown.length ≤ 66 * W + 64 := by
  have := PyData.shown_le 64 (by decide) d (asc_show d h.as).1
  have := h.wt
  omega
end SH

/-! [1 for x in xs if ..], held against [] -/
namespace SH
open PySem PySem.Spec PyProof.Rows L2
variable [WW]
def ones (p : D → Bool) (ds : List D) : List D := ds.filterMap fun d => if p d = true then some (.int 1) else none
theorem ones_one {p : D → Bool} {ds : List D} : ∀ d ∈ ones p ds, d = .int 1 := by
  intro d hd
  obtain ⟨e, _, h⟩ := List.mem_filterMap.mp hd
  split at h
  · exact (Option.some.inj h).symm
  · cases h
theorem ones_nil {p : D → Bool} : ∀ {ds : List D}, (ones p ds).isEmpty = !ds.any p
  | [] => rfl
  | d :: ds => by
    unfold ones
    rw [List.filterMap_cons, List.any_cons]
    cases q : p d with
    | true => simp
    | false => simpa [ones] using ones_nil (p := p) (ds := ds)
theorem sh_ones : ∀ {l : List D}, (∀ d ∈ l, d = .int 1) → PyData.canLayAll0 l = true ∧ PyData.depthAll l = 0
  | [], _ => ⟨rfl, rfl⟩
  | d :: l, h => by
    obtain ⟨h1, h2⟩ := sh_ones (l := l) fun e he => h e (List.mem_cons_of_mem _ he)
    rw [h d List.mem_cons_self]
    refine ⟨?_, ?_⟩
    · show (PyData.canLay0 (.int 1) && PyData.canLayAll0 l) = true
      rw [h1]; rfl
    · show max (PyData.depth (.int 1)) (PyData.depthAll l) = 0
      rw [h2]; rfl
theorem sh_onesL {p : D → Bool} {ds : List D} : SeqAt.shaped (.list (ones p ds)) = true := by
  obtain ⟨h1, h2⟩ := sh_ones (l := ones p ds) ones_one
  unfold SeqAt.shaped
  simp [PyData.canLay0, PyData.depth, h1, h2]
theorem eqv_nilL {l : List D} : PyData.eqv (.list l) (.list []) = l.isEmpty := by
  cases l <;> simp [PyData.eqv, PyData.eqvAll]
section
variable {K : PySem.W.Frag} {Zc : Addr → Prop} {s : S} {x y : SV} {Φ : SV → S → Prop}
theorem os_neO {p : D → Bool} {ds : List D} (h1 : rd s.mem x = some (.list (ones p ds))) (h2 : rd s.mem y = some (.list [])) (k : Φ (.dat (.bool (ds.any p))) s) : OpS K Zc (rNeU K) x y s Φ := by
  refine os_ne h1 h2 sh_onesL rfl ?_
  rw [eqv_nilL, ones_nil, Bool.not_not]
  exact k
theorem os_eqO {p : D → Bool} {ds : List D} (h1 : rd s.mem x = some (.list (ones p ds))) (h2 : rd s.mem y = some (.list [])) (k : Φ (.dat (.bool (!ds.any p))) s) : OpS K Zc (rEqU K) x y s Φ := by
  refine os_eq h1 h2 sh_onesL rfl ?_
  rw [eqv_nilL, ones_nil]
  exact k
end
theorem back {sl : List SV} {mem m' : Mem} {Φ : SV → S → Prop} {d : D} (k : Φ (.dat d) ⟨sl, mem⟩) : backP ⟨sl, mem⟩ Φ (.dat d) m' := k
end SH

/-! defs that raise an own error with fields of data, and those that catch it -/
namespace SH
open PySem PySem.Spec PyProof.Rows L2
variable [WW]

/-- an error: its class by name, its fields (the last stored first) -/
structure XD where
  cl : Str
  fs : List (Str × D)
def clsA (K : PySem.W.Frag) (x : Str) : Addr := match PySem.W.nsIn K mainGlobals x with
  | some (some (.ref C)) => C
  | _ => 0
/-- it flies -/
def XR (K : PySem.W.Frag) (F : Hp) (x : XD) (cls : Value) (d : Option Addr) : Prop := cls = .ref (clsA K x.cl) ∧ ∃ dx, d = some dx ∧ XdR K F dx x.fs
theorem XR.same {K : PySem.W.Frag} {F F' : Hp} {x : XD} {cls : Value} {d : Option Addr} (h : XR K F x cls d) (e : Same F F') : XR K F' x cls d := by
  obtain ⟨h1, dx, h2, h3⟩ := h
  exact ⟨h1, dx, h2, h3.same e⟩
/-- what an error in the air is to meet -/
def XW (K : PySem.W.Frag) (Zc : Addr → Prop) (n : Nat) (ad : List Addr) (m : Mem) (H : Hp) (W : WX) (Ξ : XD → S → Prop) : Prop :=
  ∀ (x : XD) (σ' : L2.St) (ad' : List Addr) (H' : Hp) (s' : S) (cls : Value) (d : Option Addr), Ξ x s' → SR K Zc ad' H' σ' s' → Frm Zc n ad m H ad' s'.mem H' → XR K (FZ Zc ad' s'.mem H') x cls d → W cls d σ' H'
def EvX (K : PySem.W.Frag) (Zc : Addr → Prop) (t : WX → TE) (s : S) (Φ : SV → S → Prop) (Ξ : XD → S → Prop) : Prop :=
  ∀ W ad H σ Q, SR K Zc ad H σ s → Post K Zc ad H σ s Φ Q → XW K Zc s.mem.length ad s.mem H W Ξ → t W σ H Q
def ExX (K : PySem.W.Frag) (Zc : Addr → Prop) (n : Nat) (t : WX → TS) (s : S) (De : DE) (Ξ : XD → S → Prop) : Prop :=
  ∀ W ad H σ (Dd : Ends), SR K Zc ad H σ s → n ≤ s.mem.length →
    (∀ σ' ad' H' s', De.nx s' → SR K Zc ad' H' σ' s' → Frm Zc n ad s.mem H ad' s'.mem H' → Dd.nx σ' H') →
    (∀ v ad' H' rv m', De.rt rv m' → MR K Zc ad' H' m' → Frm Zc n ad s.mem H ad' m' H' → VR K Zc ad' m' H' v rv → Dd.rt v H') →
    (∀ σ' ad' H' s', De.bk s' → SR K Zc ad' H' σ' s' → Frm Zc n ad s.mem H ad' s'.mem H' → Dd.bk σ' H') →
    (∀ σ' ad' H' s', De.ct s' → SR K Zc ad' H' σ' s' → Frm Zc n ad s.mem H ad' s'.mem H' → Dd.ct σ' H') → XW K Zc n ad s.mem H W Ξ → t W Dd σ H

section
variable {K : PySem.W.Frag} {Zc : Addr → Prop} {ad ad' ad2 : List Addr} {H H' H2 : Hp} {m m' m2 : Mem} {σ σ' : L2.St} {s s' s1 : S} {n : Nat} {Q : VK} {Φ : SV → S → Prop} {De : DE} {Ξ : XD → S → Prop} {W : WX}
theorem XW.step {k : Nat} (w : XW K Zc n ad m H W Ξ) (F : Frm Zc k ad m H ad' m' H') (h : n ≤ k) (hk : k ≤ m'.length) : XW K Zc m'.length ad' m' H' W Ξ := fun x σ2 ad2 H2 s2 cls d h1 I2 F2 r => w x σ2 ad2 H2 s2 cls d h1 I2 ((F.less h).trans F2 (Nat.le_trans h hk)) r
theorem XW.up (w : XW K Zc n ad m H W Ξ) (h : n ≤ m.length) : XW K Zc m.length ad m H W Ξ := fun x σ2 ad2 H2 s2 cls d h1 I2 F2 r => w x σ2 ad2 H2 s2 cls d h1 I2 (F2.less h) r
/-! ### what raises nothing -/
/-! ### rules -/
theorem EvX.imp {t : WX → TE} {Ψ : SV → S → Prop} {Ω : XD → S → Prop} (h : EvX K Zc t s Ψ Ω) (k : ∀ sv s', Ψ sv s' → Φ sv s') (k2 : ∀ x s', Ω x s' → Ξ x s') : EvX K Zc t s Φ Ξ :=
  fun W ad H σ Q I p w => h W ad H σ Q I (fun v ad' H' sv s' a b c d => p v ad' H' sv s' (k _ _ a) b c d) fun x σ' ad' H' s' cls d h1 I1 F1 r => w x σ' ad' H' s' cls d (k2 _ _ h1) I1 F1 r
theorem ExX.imp {t : WX → TS} {De' : DE} {Ω : XD → S → Prop} (h : ExX K Zc n t s De' Ω) (a : ∀ s', De'.nx s' → De.nx s') (b : ∀ v m', De'.rt v m' → De.rt v m') (c : ∀ s', De'.bk s' → De.bk s') (d : ∀ s', De'.ct s' → De.ct s') (k2 : ∀ x s', Ω x s' → Ξ x s') : ExX K Zc n t s De Ξ :=
  fun W ad H σ Dd I hn k1 k2' k3 k4 w => h W ad H σ Dd I hn (fun σ' ad' H' s' h1 => k1 σ' ad' H' s' (a _ h1)) (fun v ad' H' rv m' h1 => k2' v ad' H' rv m' (b _ _ h1)) (fun σ' ad' H' s' h1 => k3 σ' ad' H' s' (c _ h1)) (fun σ' ad' H' s' h1 => k4 σ' ad' H' s' (d _ h1))
    fun x σ' ad' H' s' cls d h1 I1 F1 r => w x σ' ad' H' s' cls d (k2 _ _ h1) I1 F1 r
end

/-! ### a def that may raise -/
abbrev CtX := List SV → Mem → (SV → Mem → Prop) → (XD → Mem → Prop) → Prop
section
variable {P : Program} {w : World} {K : PySem.W.Frag} {mg : Str → Option Value} {base : Heap} {f : Addr} {fd : FuncData}
end
section
variable {X : Cx} {k : Nat} {x : Str} {ps : List Str} {C : CtX} {p pos : Pos} {e : Expr} {es : List Expr} {t : TA} {W : WX}
end
section
variable {K : PySem.W.Frag} {Zc : Addr → Prop} {s : S} {Φ : SV → S → Prop} {Ξ : XD → S → Prop} {C : CtX}
end
end SH

/-! own errors with fields of data: their making, raise, try .. except .. as .. -/
namespace SH
open PySem PySem.Spec PyProof.Rows L2
variable [WW]

/-! ### __init__ that stores its parameters -/
def spI (C : Addr) (fs : List Str) : Sp := fun vs H Q _ => ∃ a ys, vs = .ref a :: ys ∧ ys.length = fs.length ∧ H a = some (exo a C none) ∧
  ∀ dx H', H dx = none → dx ≠ a → H' a = some (exo a C (some dx)) → H' dx = some (exd dx (fs.zip ys).reverse) → (∀ b, b ≠ a → b ≠ dx → H' b = H b) → Q .non H'
/-! ### the class, by its name -/
structure CalE (P : Program) (w : World) (K : PySem.W.Frag) (mg : Str → Option Value) (base : Heap) (x : Str) (fs : List Str) : Prop where
  gC : mg x = some (.ref (clsA K x))
  oc : OexC K (clsA K x)
  xf : XfC K (clsA K x)
  no : ∀ f ∈ fs, PySem.W.findIn K (.ref (clsA K x)) f = some none
  me : PySem.W.exmOne K (.ref (clsA K x)) (.ref (clsA K x)) = some true
  ini : ∃ (fI : Addr) (fd : FuncData), PySem.W.findIn K (.ref (clsA K x)) "__init__" = some (some (.ref fI)) ∧ PySem.W.typeIn K (.ref fI) = some (.type "function") ∧
    FnOk P w K mg base CX0 1 fI fd ("self" :: fs) (spI (clsA K x) fs) ∧ Binds K fd ("self" :: fs) []
section
variable {X : Cx} {x : Str} {fs : List Str} {p pos pos' : Pos} {e : Expr} {es : List Expr} {ta : TA} {W : WX}
end
section
variable {K : PySem.W.Frag} {Zc : Addr → Prop} {ad ad' ad2 : List Addr} {H H' H2 : Hp} {m m' m2 : Mem} {σ σ' : L2.St} {s s' s1 : S} {n : Nat} {Q : VK} {Φ : SV → S → Prop} {De : DE} {Ξ : XD → S → Prop} {W : WX}
end
section
variable {X : Cx} {x nm : Str} {i : Nat} {fs : List Str} {body suite : List Stmt} {b₀ : Stmt} {np pos pos' : Pos} {tb : WX → TS} {ts : Addr → Value → Option Addr → TS}
end
section
variable {K : PySem.W.Frag} {Zc : Addr → Prop} {s : S} {n : Nat} {De : DE}
end
end SH
namespace SH
open PySem PySem.Spec PyProof.Rows L2
end SH

namespace SH
open PySem PySem.Spec PyProof.Rows L2
variable [WW]
theorem wipeS_len (sl : List SV) (vs : List Nat) : (wipeS sl vs).length = sl.length := by
  induction vs with
  | nil => rfl
  | cons v vs ih => simp [wipeS, ih]
theorem wipeS_get (sl : List SV) (vs : List Nat) (i : Nat) : (wipeS sl vs)[i]? = if i ∈ vs then (if i < sl.length then some .un else none) else sl[i]? := by
  refine NoI.keep (fun _ wNoI => ?_) ?_
  simp only [↓ NoI.wrOf wNoI (by
  clear wNoI
  induction vs with
  | nil => simp [wipeS]
  | cons v vs ih =>
    show ((wipeS sl vs).set v .un)[i]? = _
    rw [List.getElem?_set, wipeS_len]
    by_cases h : v = i
    · subst h; simp
    · rw [if_neg h, ih]
      have : (i ∈ v :: vs) ↔ i ∈ vs := by simp [Ne.symm h]
      simp only [this]
  )]
  intro _ hNoI
  simpa using (fun (_ : NoI.Sg) => hNoI) [5]
theorem wipeS_twice {vs : List Nat} (sl : List SV) : wipeS (wipeS sl vs) vs = wipeS sl vs := by
  apply List.ext_getElem?
  intro i
  rw [wipeS_get, wipeS_get, wipeS_len]
  split <;> rfl
section
variable {K : PySem.W.Frag} {Zc : Addr → Prop} {s : S} {Φ : SV → S → Prop}
/-- a op b op' c -/
theorem ev_chain {r r' : R2} {ta tb tc : TE} (h : EvS K Zc ta s fun x s1 => EvS K Zc tb s1 fun y s2 => OpS K Zc r x y s2 fun z s3 => ∃ k, z = .dat (.bool k) ∧
    (k = true → s3 = s2 ∧ EvS K Zc tc s3 fun w s4 => OpS K Zc r' y w s4 Φ) ∧ (k = false → Φ (.dat (.bool false)) s3)) : EvS K Zc (tChain r r' ta tb tc) s Φ := by
  refine NoI.keep (fun _ wNoI => ?_) ?_
  simp only [↓ NoI.wrOf wNoI (by
  clear wNoI
  intro ad H σ Q I p
  refine h ad H σ _ I fun x ad1 H1 sx s1 h1 I1 F1 r1 => h1 ad1 H1 σ _ I1 fun y ad2 H2 sy s2 h2 I2 F2 r2 => ?_
  refine h2 ad2 H2 σ x y _ I2 (r1.frm F2) r2 fun z ad3 H3 sz s3 h3 I3 F3 r3 => ?_
  obtain ⟨k, rfl, ht, hf⟩ := h3
  cases r3
  refine ⟨k, rfl, ?_⟩
  cases k with
  | true =>
    rw [if_pos rfl]
    obtain ⟨e3, ht2⟩ := ht rfl
    subst e3
    refine ht2 ad3 H3 σ _ I3 fun w ad4 H4 sw s4 h4 I4 F4 r4 => ?_
    exact h4 ad4 H4 σ y w Q I4 ((r2.frm F3).frm F4) r4 ((((p.step F1).step F2).step F3).step F4)
  | false =>
    rw [if_neg (by decide)]
    exact (((p.step F1).step F2).step F3).val I3 (hf rfl) (.bl false)
  )]
  intro _ hNoI
  simpa using (fun (_ : NoI.Sg) => hNoI) [5]
theorem ev_orV {ta tb : TE} (h : EvS K Zc ta s fun x s1 => ∃ b, x = .dat (.bool b) ∧ (b = true → Φ (.dat (.bool true)) s1) ∧ (b = false → EvS K Zc tb s1 Φ)) : EvS K Zc (tOrV ta tb) s Φ := by
  refine NoI.keep (fun _ wNoI => ?_) ?_
  simp only [↓ NoI.wrOf wNoI (by
  clear wNoI
  intro ad H σ Q I p
  refine h ad H σ _ I fun v ad1 H1 x s1 h1 I1 F1 r1 => ?_
  obtain ⟨b, rfl, h1, h2⟩ := h1
  cases r1
  refine ⟨b, rfl, ?_⟩
  cases b with
  | true => exact (p.step F1).val I1 (h1 rfl) (.bl true)
  | false => exact h2 rfl ad1 H1 σ Q I1 (p.step F1)
  )]
  intro _ hNoI
  simpa using (fun (_ : NoI.Sg) => hNoI) [5]
theorem ev_notV {ta : TE} (h : EvS K Zc ta s fun x s1 => ∃ b, x = .dat (.bool b) ∧ Φ (.dat (.bool (!b))) s1) : EvS K Zc (tNotV ta) s Φ := by
  refine NoI.keep (fun _ wNoI => ?_) ?_
  simp only [↓ NoI.wrOf wNoI (by
  clear wNoI
  intro ad H σ Q I p
  refine h ad H σ _ I fun v ad1 H1 sv s1 h1 I1 F1 r1 => ?_
  obtain ⟨b, rfl, h1⟩ := h1
  cases r1
  exact ⟨b, rfl, (p.step F1).val I1 h1 (.bl _)⟩
  )]
  intro _ hNoI
  simpa using (fun (_ : NoI.Sg) => hNoI) [5]
/-- a comprehension whose element changes nothing, whatever it binds -/
theorem ev_lcT {wi : TI} {g : TG} {te : TE} {vs : List Nat} (hw : GW g vs) (hi : IterS K Zc wi s fun items s1 => ∃ out : List D, out.length = items.length ∧ out.length ≤ 1000000 ∧
      (∀ (k : Nat) (d e : D) (m' : Mem), items[k]? = some d → out[k]? = some e → m' = s1.mem ++ [some (.list (out.take k))] →
        GS K Zc g (.dat d) ⟨wipeS s1.sl vs, m'⟩ fun s2 => EvS K Zc te s2 (asD fun y s4 => y = e ∧ Wk ⟨wipeS s4.sl vs, s4.mem⟩ ⟨wipeS s1.sl vs, m'⟩)) ∧ Φ (.own s1.mem.length) ⟨wipeS s1.sl vs, s1.mem ++ [some (.list out)]⟩) :
    EvS K Zc (tLc wi g tYes te vs) s Φ := by
  refine NoI.keep (fun _ wNoI => ?_) ?_
  simp only [↓ NoI.wrOf wNoI (by
  clear wNoI
  refine ev_lc hw fun ad H σ R I p => hi ad H σ R I fun J ad' H' items s1 h I' F jok => p J ad' H' items s1 ?_ I' F jok
  obtain ⟨out, hl, hz, hs, hd⟩ := h
  have ww : ∀ sl : List SV, wipeS (wipeS sl vs) vs = wipeS sl vs := wipeS_twice
  refine ⟨fun k s => s = ⟨wipeS s1.sl vs, s1.mem ++ [some (.list (out.take k))]⟩, by simp, ?_, ?_⟩
  · rintro k d _ hk rfl hn
    have hk' : k < items.length := (List.getElem?_eq_some_iff.mp hk).1
    have he : out[k]? = some (out[k]'(by omega)) := List.getElem?_eq_getElem _
    intro ad2 H2 σ2 v2 Q2 I2 r2 k2
    refine hs k d _ _ hk he rfl ad2 H2 σ2 v2 Q2 I2 r2 fun σ' sl' h1 h2 => k2 σ' sl' (tt_yes ⟨fun _ => h1.imp ?_, fun h => by cases h⟩) h2
    rintro sv s4 q
    have fin : ∀ (y : D) (s4 : S), (y = out[k]'(by omega) ∧ Wk ⟨wipeS s4.sl vs, s4.mem⟩ ⟨wipeS s1.sl vs, s1.mem ++ [some (.list (out.take k))]⟩) →
        ∃ acc, s4.mem[s1.mem.length]? = some (some (.list acc)) ∧ acc.length < sizeLine ∧ To (s1.mem.length + 1) (fun s => s = ⟨wipeS s1.sl vs, s1.mem ++ [some (.list (out.take (k + 1)))]⟩) ⟨wipeS s4.sl vs, s4.mem.set s1.mem.length (some (.list (acc ++ [y])))⟩ := by
      rintro y s4 ⟨rfl, w⟩
      have hm : s4.mem[s1.mem.length]? = some (some (.list (out.take k))) := w.mem _ _ (by simp)
      refine ⟨_, hm, ?_, _, ?_, ?_, rfl⟩
      · rw [List.length_take, sizeLine_eq]
        omega
      · refine ⟨w.len, fun j sv e => ?_, ?_, fun j ds e => ?_⟩
        · rcases w.sl j sv e with z | ⟨z1, z2⟩
          · exact .inl z
          · refine .inr ⟨z1, ?_⟩
            intro j2 e2
            have := z2 j2 e2
            simpa using this
        · have := w.le
          simpa using this
        · have e : (s1.mem ++ [some (.list (out.take (k + 1)))])[j]? = some (some ds) := e
          show (s4.mem.set s1.mem.length _)[j]? = _
          by_cases hj : j = s1.mem.length
          · subst hj
            simp at e
            subst e
            rw [List.getElem?_set_self (List.getElem?_eq_some_iff.mp hm).1, List.take_add_one, he]
            rfl
          · rw [List.getElem?_set_ne fun z => hj z.symm]
            refine w.mem j ds ?_
            show (s1.mem ++ [some (.list (out.take k))])[j]? = some (some ds)
            by_cases h2 : j < s1.mem.length
            · rw [List.getElem?_append_left h2] at e ⊢; exact e
            · have := (List.getElem?_eq_some_iff.mp e).1
              simp at this
              omega
      · simp
    cases sv with
    | dat d => exact fin d s4 q
    | own j =>
      simp only [asD] at q ⊢
      split
      · rename_i ds e
        rw [e] at q
        exact fin _ _ q
      · rename_i h
        split at q
        · rename_i ds e
          exact absurd e (h ds)
        · exact q
    | ro _ => exact q.elim
    | rng _ _ => exact q.elim
    | exn _ _ _ => exact q.elim
    | un => exact q.elim
  · rintro _ rfl
    rw [show out.take items.length = out by rw [← hl, List.take_length]]
    rw [ww]
    exact hd
  )]
  intro _ hNoI
  simpa using (fun (_ : NoI.Sg) => hNoI) [5]
end
end SH

/-! dicts whose keys are tuples, over data -/
namespace SH
open PySem PySem.Spec PyProof.Rows L2
section
variable [WW] {K : PySem.W.Frag} {Zc : Addr → Prop} {s : S} {x y : SV} {Φ : SV → S → Prop} {n : Nat}
theorem rd_key2 {ad : List Addr} {H : Hp} {m : Mem} {v : V} {sv : SV} {k : TK} (h : MR K Zc ad H m) (r : VR K Zc ad m H v sv) (e : rd m sv = some (kx k)) (hz : (NestedKey.tup k).depth ≤ 8) : ∃ b, v = .ref b ∧ KeyX K H b k := by
  have dv := rd_D h r e
  obtain ⟨b, rfl⟩ : ∃ b, v = .ref b := by
    cases dv
    exact ⟨_, rfl⟩
  exact ⟨b, rfl, dv, hz⟩
end
end SH

/-! comprehensions with any target and a test; l.extend(..), max and min with default=, tuple(range(..)), dict(pairs) of all keys -/
namespace SH
open PySem PySem.Spec PyProof.Rows L2
section
variable [WW] {K : PySem.W.Frag} {Zc : Addr → Prop} {s : S} {x y : SV} {Φ : SV → S → Prop} {n : Nat}
theorem wk_push {sl0 sl : List SV} {vs : List Nat} {m0 : Mem} {s4 : S} {acc : List D} {d : D} (w : Wk ⟨wipeS s4.sl vs, s4.mem⟩ ⟨wipeS sl0 vs, m0 ++ [some (.list acc)]⟩) :
    s4.mem[m0.length]? = some (some (.list acc)) ∧ Wk ⟨wipeS s4.sl vs, s4.mem.set m0.length (some (.list (acc ++ [d])))⟩ ⟨wipeS sl0 vs, m0 ++ [some (.list (acc ++ [d]))]⟩ := by
  refine NoI.keep (fun _ wNoI => ?_) ?_
  simp only [↓ NoI.wrOf wNoI (by
  clear wNoI
  have hm : s4.mem[m0.length]? = some (some (.list acc)) := w.mem _ _ (by simp)
  refine ⟨hm, w.len, fun j sv e => ?_, ?_, fun j ds e => ?_⟩
  · rcases w.sl j sv e with z | ⟨z1, z2⟩
    · exact .inl z
    · refine .inr ⟨z1, fun j2 e2 => ?_⟩
      have := z2 j2 e2
      simpa using this
  · have := w.le
    simpa using this
  · have e : (m0 ++ [some (PyData.list (acc ++ [d]))])[j]? = some (some ds) := e
    show (s4.mem.set m0.length _)[j]? = _
    by_cases hj : j = m0.length
    · subst hj
      simp at e
      subst e
      rw [List.getElem?_set_self (List.getElem?_eq_some_iff.mp hm).1]
    · rw [List.getElem?_set_ne fun z => hj z.symm]
      refine w.mem j ds ?_
      show (m0 ++ [some (PyData.list acc)])[j]? = some (some ds)
      by_cases h2 : j < m0.length
      · rw [List.getElem?_append_left h2] at e ⊢; exact e
      · have := (List.getElem?_eq_some_iff.mp e).1
        simp at this
        omega
  )]
  intro _ hNoI
  simpa using (fun (_ : NoI.Sg) => hNoI) [5]
/-- a comprehension of any target, with a test, whose element changes nothing -/
theorem ev_lcF {wi : TI} {g : TG} {tt : TT} {te : TE} {vs : List Nat} (hw : GW g vs) (hi : IterS K Zc wi s fun items s1 => ∃ f : D → Option D, items.length ≤ 1000000 ∧
      (∀ (k : Nat) (d : D) (m' : Mem), items[k]? = some d → m' = s1.mem ++ [some (.list ((items.take k).filterMap f))] →
        GS K Zc g (.dat d) ⟨wipeS s1.sl vs, m'⟩ fun s2 => TtS K Zc tt s2 fun b s3 =>
          (b = true → ∃ e, f d = some e ∧ EvS K Zc te s3 (asD fun y s4 => y = e ∧ Wk ⟨wipeS s4.sl vs, s4.mem⟩ ⟨wipeS s1.sl vs, m'⟩)) ∧ (b = false → f d = none ∧ Wk ⟨wipeS s3.sl vs, s3.mem⟩ ⟨wipeS s1.sl vs, m'⟩)) ∧
      Φ (.own s1.mem.length) ⟨wipeS s1.sl vs, s1.mem ++ [some (.list (items.filterMap f))]⟩) : EvS K Zc (tLc wi g tt te vs) s Φ := by
  refine NoI.keep (fun _ wNoI => ?_) ?_
  simp only [↓ NoI.wrOf wNoI (by
  clear wNoI
  refine ev_lc hw fun ad H σ R I p => hi ad H σ R I fun J ad' H' items s1 h I' F jok => p J ad' H' items s1 ?_ I' F jok
  obtain ⟨f, hz, hs, hd⟩ := h
  have ww : ∀ sl : List SV, wipeS (wipeS sl vs) vs = wipeS sl vs := wipeS_twice
  refine ⟨fun k s => s = ⟨wipeS s1.sl vs, s1.mem ++ [some (.list ((items.take k).filterMap f))]⟩, by simp, ?_, ?_⟩
  · rintro k d _ hk rfl hn
    have tk : (items.take (k + 1)).filterMap f = (items.take k).filterMap f ++ (f d).toList := by
      rw [List.take_add_one, hk, List.filterMap_append]
      show _ ++ List.filterMap f [d] = _
      rw [List.filterMap_cons, List.filterMap_nil]
      cases f d <;> rfl
    intro ad2 H2 σ2 v2 Q2 I2 r2 k2
    refine hs k d _ hk rfl ad2 H2 σ2 v2 Q2 I2 r2 fun σ' s2 h2 I3 => k2 σ' s2 ?_ I3
    intro ad3 H3 σ3 Q3 I4 k4
    refine h2 ad3 H3 σ3 Q3 I4 fun b ad4 H4 s3 h3 I5 F5 => k4 b ad4 H4 s3 ⟨fun hb => ?_, fun hb => ?_⟩ I5 F5
    · obtain ⟨e, he, h4⟩ := h3.1 hb
      have fin : ∀ (y : D) (s4 : S), (y = e ∧ Wk ⟨wipeS s4.sl vs, s4.mem⟩ ⟨wipeS s1.sl vs, s1.mem ++ [some (.list ((items.take k).filterMap f))]⟩) →
          ∃ acc, s4.mem[s1.mem.length]? = some (some (.list acc)) ∧ acc.length < sizeLine ∧ To (s1.mem.length + 1) (fun s => s = ⟨wipeS s1.sl vs, s1.mem ++ [some (.list ((items.take (k + 1)).filterMap f))]⟩) ⟨wipeS s4.sl vs, s4.mem.set s1.mem.length (some (.list (acc ++ [y])))⟩ := by
        rintro y s4 ⟨rfl, w⟩
        obtain ⟨hm, w2⟩ := wk_push (sl := s1.sl) (d := y) w
        refine ⟨_, hm, ?_, ⟨wipeS s1.sl vs, s1.mem ++ [some (.list ((items.take k).filterMap f ++ [y]))]⟩, w2, by simp, by rw [tk, he]; rfl⟩
        have h1 := List.length_filterMap_le f (items.take k)
        have h3 : (items.take k).length ≤ items.length := by rw [List.length_take]; omega
        rw [sizeLine_eq]
        omega
      refine h4.imp ?_
      rintro sv s4 q
      cases sv with
      | dat d => exact fin d s4 q
      | own j =>
        simp only [asD] at q ⊢
        split
        · rename_i ds e
          rw [e] at q
          exact fin _ _ q
        · rename_i h
          split at q
          · rename_i ds e
            exact absurd e (h ds)
          · exact q
      | ro _ => exact q.elim
      | rng _ _ => exact q.elim
      | exn _ _ _ => exact q.elim
      | un => exact q.elim
    · obtain ⟨he, w⟩ := h3.2 hb
      refine ⟨_, w, by simp, ?_⟩
      show _ = (⟨wipeS s1.sl vs, s1.mem ++ [some (PyData.list ((items.take (k + 1)).filterMap f))]⟩ : S)
      rw [tk, he]
      simp
  · rintro _ rfl
    rw [List.take_length, ww]
    exact hd
  )]
  intro _ hNoI
  simpa using (fun (_ : NoI.Sg) => hNoI) [5]
theorem mt_extendS {i : Nat} {ds es : List D} (e : s.mem[i]? = some (some (.list ds))) (h2 : rd s.mem y = some (.list es)) (hz : ds.length + es.length ≤ sizeLine) (k : Φ (.dat .none) ⟨s.sl, s.mem.set i (some (.list (ds ++ es)))⟩) : MtS K Zc rExtend (.own i) [y] s Φ := by
  refine NoI.keep (fun _ wNoI => ?_) ?_
  simp only [↓ NoI.wrOf wNoI (by
  clear wNoI
  intro ad H σ v vs Q I r1 r2 p
  obtain ⟨z, rfl, rz⟩ := vrs1 r2
  obtain ⟨a, us, rfl, ha, hH, hd⟩ := own_at I.mr r1 e
  obtain ⟨b, ws, rfl, hB, hb⟩ := rd_lst I.mr rz h2
  exact ⟨a, b, us, ws, rfl, rfl, hH, hB, by rw [dpAll_len hd, dpAll_len hb]; exact hz, p.put I e ha (dpAll_append hd hb) (sv := .dat .none) .non k⟩
  )]
  intro _ hNoI
  simpa using (fun (_ : NoI.Sg) => hNoI) [5]
end
/-! max, min with default= -/
section
variable {X : Cx}
/-- tuple(range) -/
def rTupR : List V → Hp → VK → Prop := fun xs H Q => ∃ (a : Addr) (lo hi : Int), xs = [.ref a] ∧ H a = some (.rng lo hi) ∧ (-(2 ^ 62) ≤ lo ∧ lo < 2 ^ 62 ∧ -(2 ^ 62) ≤ hi ∧ hi < 2 ^ 62) ∧ hi - lo ≤ 2 ^ 24 ∧ mkT H ((upTo lo hi).map V.int) Q
end
section
variable [WW] {K : PySem.W.Frag} {Zc : Addr → Prop} {s : S} {x y : SV} {Φ : SV → S → Prop} {n : Nat}
def CkS (K : PySem.W.Frag) (Zc : Addr → Prop) (r : List V → List V → Hp → VK → Prop) (xs zs : List SV) (s : S) (Φ : SV → S → Prop) : Prop :=
  ∀ ad H σ vs ws Q, SR K Zc ad H σ s → VRs K Zc ad s.mem H vs xs → VRs K Zc ad s.mem H ws zs → Post K Zc ad H σ s Φ Q → r vs ws H Q
theorem ev_ckw {r : List V → List V → Hp → VK → Prop} {t tk : TA} (h : ArS K Zc t s fun xs s1 => ArS K Zc tk s1 fun zs s2 => CkS K Zc r xs zs s2 Φ) : EvS K Zc (tCKw r t tk) s Φ := by
  refine NoI.keep (fun _ wNoI => ?_) ?_
  simp only [↓ NoI.wrOf wNoI (by
  clear wNoI
  intro ad H σ Q I p
  exact h ad H σ _ I fun vs ad1 H1 svs s1 h1 I1 F1 r1 => h1 ad1 H1 σ _ I1 fun ws ad2 H2 zvs s2 h2 I2 F2 r2 => h2 ad2 H2 σ vs ws Q I2 (r1.frm F2) r2 ((p.step F1).step F2)
  )]
  intro _ hNoI
  simpa using (fun (_ : NoI.Sg) => hNoI) [5]
theorem cb_tupR {lo hi : Int} (h1 : x = .rng lo hi) (hb : -(2 ^ 62) ≤ lo ∧ lo < 2 ^ 62 ∧ -(2 ^ 62) ≤ hi ∧ hi < 2 ^ 62) (hz : hi - lo ≤ 2 ^ 24) (k : Φ (.dat (.tuple ((upTo lo hi).map PyData.int))) s) : CbS K Zc rTupR [x] s Φ := by
  refine NoI.keep (fun _ wNoI => ?_) ?_
  simp only [↓ NoI.wrOf wNoI (by
  clear wNoI
  intro ad H σ vs Q I r p
  obtain ⟨v, rfl, r1⟩ := vrs1 r
  subst h1
  obtain ⟨a, rfl, e1⟩ := r1
  exact ⟨a, lo, hi, rfl, (Fz_inv e1).2, hb, hz, p.tup I k (dvs_ints _)⟩
  )]
  intro _ hNoI
  simpa using (fun (_ : NoI.Sg) => hNoI) [5]
end
end SH

/-! a list times an int -/
namespace SH
open PySem PySem.Spec PyProof.Rows L2
section
variable [WW] {K : PySem.W.Frag} {Zc : Addr → Prop} {s : S} {x y : SV} {Φ : SV → S → Prop}
end
end SH

/-! a walk in which is raised; except x: without a name; longer tuples -/
namespace SH
open PySem PySem.Spec PyProof.Rows L2
variable [WW]
section
variable {K : PySem.W.Frag} {Zc : Addr → Prop} {s : S} {n : Nat} {De : DE} {Ξ : XD → S → Prop}
end
section
variable {X : Cx} {x : Str} {fs : List Str} {body suite : List Stmt} {b₀ : Stmt} {np pos pos' : Pos} {tb : WX → TS} {ts : Addr → Value → Option Addr → TS}
end
section
variable {K : PySem.W.Frag} {Zc : Addr → Prop} {s : S} {n : Nat} {De : DE}
end
/-! ### a tuple times an int up to 2000 -/
section
variable {K : PySem.W.Frag} {Zc : Addr → Prop} {s : S} {x y : SV} {Φ : SV → S → Prop}
def rIsNo : R2 := fun x y H Q => y = .non ∧ Q (.bl (decide (x = .non))) H
theorem op_isNo {X : Cx} : OpR X (compareOp .Is) rIsNo := op_isN
def isNo : D → Bool
  | .none => true
  | _ => false
theorem no_dv {H : Hp} {v : V} {d : D} (h : DV K H v d) : decide (v = .non) = isNo d := by
  cases h <;> simp [isNo]
theorem os_isN {d : D} (h1 : rd s.mem x = some d) (h2 : y = .dat .none) (k : Φ (.dat (.bool (isNo d))) s) : OpS K Zc rIsNo x y s Φ := by
  refine NoI.keep (fun _ wNoI => ?_) ?_
  simp only [↓ NoI.wrOf wNoI (by
  clear wNoI
  intro ad H σ v u Q I r1 r2 p
  subst h2
  have e : u = .non := by cases r2; rfl
  refine ⟨e, ?_⟩
  rw [no_dv (rd_D I.mr r1 h1)]
  exact p.val I k (sv := .dat _) (.bl _)
  )]
  intro _ hNoI
  simpa using (fun (_ : NoI.Sg) => hNoI) [5]
end
end SH

/-! further rules -/
namespace SH
open PySem PySem.Spec PyProof.Rows L2
variable [WW]
section
variable {K : PySem.W.Frag} {Zc : Addr → Prop} {s : S} {n : Nat}
/-- as ex_cut, where the row has been taken apart already -/
theorem ex_cutS {t u : TS} {De : DE} (J : S → Prop) (h1 : ExS K Zc n t s { De with nx := To n J }) (h2 : ∀ s1, J s1 → n ≤ s1.mem.length → ExS K Zc n u s1 De) : ExS K Zc n t s { De with nx := fun s1 => ExS K Zc n u s1 De } :=
  h1.imp (fun s1 ⟨s2, w, hl, q⟩ => ex_wk w hl (h2 s2 q hl)) (fun _ _ q => q) (fun _ q => q) fun _ q => q
end
end SH

/-! x.count(y), range with a step of -1, reversed(range(..)), (*x, y) -/
namespace SH
open PySem PySem.Spec PyProof.Rows L2
variable [WW]
/-! ### x.count(z), x a tuple of texts or a list of such -/
section
variable {X : Cx}
end
section
variable {K : PySem.W.Frag} {Zc : Addr → Prop} {s : S} {x y : SV} {Φ : SV → S → Prop} {n : Nat} {De : DE}
/-! ### ranges that go down -/
def rangeC (lo c : Int) (n : Nat) : List D := (List.range n).map fun (i : Nat) => .int (lo + (i : Int) * c)
theorem jok_rangeC {lo c : Int} {n : Nat} {F : Hp} : JOk K Zc (Itc lo c n) (rangeC lo c n) F := by
  refine NoI.keep (fun _ wNoI => ?_) ?_
  simp only [↓ NoI.wrOf wNoI (by
  clear wNoI
  intro i ad H m e M
  refine ⟨fun hi => ⟨show i < n by simpa [rangeC] using hi, fun x H' y => ?_⟩, fun hi => show n ≤ i by simpa [rangeC] using hi⟩
  obtain ⟨rfl, rfl⟩ := y
  have hi : i < n := by simpa [rangeC] using hi
  exact ⟨.inl rfl, _, by simp [rangeC, hi], .int _⟩
  )]
  intro _ hNoI
  simpa using (fun (_ : NoI.Sg) => hNoI) [5]
theorem it_range3 {ta : TA} {Ψ : List D → S → Prop} (h : ArS K Zc ta s fun svs s' => ∃ i j : Int, svs = [.dat (.int i), .dat (.int j), .dat (.int (-1))] ∧ (-(2 ^ 62) ≤ i ∧ i < 2 ^ 62 ∧ -(2 ^ 62) ≤ j ∧ j < 2 ^ 62) ∧ Ψ (rangeC i (-1) (i - j).toNat) s') : IterS K Zc (iRng3 ta) s Ψ := by
  refine NoI.keep (fun _ wNoI => ?_) ?_
  simp only [↓ NoI.wrOf wNoI (by
  clear wNoI
  intro ad H σ R I p
  refine h ad H σ _ I fun vs ad1 H1 svs s1 h1 I1 F1 r1 => ?_
  obtain ⟨i, j, rfl, b, k⟩ := h1
  match vs, r1 with
  | [v, u, w], ⟨r, r', r'', _⟩ =>
    cases r
    cases r'
    cases r''
    exact ⟨i, j, -1, _, rfl, RgC.neg b.1 b.2.1 b.2.2.1 b.2.2.2, p _ ad1 H1 _ s1 k I1 F1 jok_rangeC⟩
  )]
  intro _ hNoI
  simpa using (fun (_ : NoI.Sg) => hNoI) [5]
theorem it_revR2 {ta tb : TE} {Ψ : List D → S → Prop} (h : EvS K Zc ta s fun x s1 => EvS K Zc tb s1 fun y s2 => ∃ i j : Int, x = .dat (.int i) ∧ y = .dat (.int j) ∧ (-(2 ^ 62) ≤ i ∧ i < 2 ^ 62 ∧ -(2 ^ 62) ≤ j ∧ j < 2 ^ 62) ∧ Ψ (rangeC (i + (((j - i).toNat : Nat) : Int) - 1) (-1) (j - i).toNat) s2) : IterS K Zc (iRevR (tRg2 ta tb)) s Ψ := by
  refine NoI.keep (fun _ wNoI => ?_) ?_
  simp only [↓ NoI.wrOf wNoI (by
  clear wNoI
  intro ad H σ R I p
  refine h ad H σ _ I fun v ad1 H1 x s1 h1 I1 F1 r1 => h1 ad1 H1 σ _ I1 fun u ad2 H2 y s2 h2 I2 F2 r2 => ?_
  obtain ⟨i, j, rfl, rfl, b, k⟩ := h2
  cases r1
  cases r2
  exact ⟨i, j, rfl, rfl, b.1, b.2.1, b.2.2.1, b.2.2.2, p _ ad2 H2 _ s2 k I2 (F1.trans F2 F1.le) jok_rangeC⟩
  )]
  intro _ hNoI
  simpa using (fun (_ : NoI.Sg) => hNoI) [5]
/-! ### (*x, ..) -/
theorem vrs_dats : ∀ {ad : List Addr} {m : Mem} {H : Hp} {vs : List V} {ds : List D}, DVs K (FZ Zc ad m H) vs ds → VRs K Zc ad m H vs (ds.map SV.dat)
  | _, _, _, _, _, .nil => trivial
  | _, _, _, _, _, .cons h t => ⟨h, vrs_dats t⟩
theorem VRs.app {ad : List Addr} {m : Mem} {H : Hp} : ∀ {vs us : List V} {svs tvs : List SV}, VRs K Zc ad m H vs svs → VRs K Zc ad m H us tvs → VRs K Zc ad m H (vs ++ us) (svs ++ tvs)
  | [], _, [], _, _, h => h
  | _ :: _, _, _ :: _, _, h, g => ⟨h.1, VRs.app h.2 g⟩
  | [], _, _ :: _, _, h, _ => h.elim
  | _ :: _, _, [], _, h, _ => h.elim
theorem ad_star {te : TE} {tr : TA} {Ψ : List D → S → Prop} (h : EvS K Zc te s (asD fun d s1 => ∃ ds, seqD d = some ds ∧ ArD K Zc tr s1 fun es s2 => Ψ (ds ++ es) s2)) : ArD K Zc (StX.tStar K te tr) s Ψ := by
  refine NoI.keep (fun _ wNoI => ?_) ?_
  simp only [↓ NoI.wrOf wNoI (by
  clear wNoI
  intro ad H σ Q I p
  refine ev_asD (Φ := fun sv s' => ∃ d ds, sv = .dat d ∧ seqD d = some ds ∧ ArD K Zc tr s' fun es s2 => Ψ (ds ++ es) s2) h (fun d s' ⟨ds, e, k⟩ => ⟨d, ds, rfl, e, k⟩) ad H σ _ I fun v ad1 H1 sv s1 h1 I1 F1 r1 => ?_
  obtain ⟨d, ds, rfl, e, k⟩ := h1
  obtain ⟨a, vs, rfl, q, dv⟩ := rd_seq I1.mr r1 rfl e
  refine ⟨a, vs, rfl, q.symm, k ad1 H1 σ _ I1 fun us ad2 H2 svs s2 h2 I2 F2 r2 => ?_⟩
  obtain ⟨es, rfl, hΨ⟩ := h2
  exact p (vs ++ us) ad2 H2 _ s2 ⟨ds ++ es, by rw [List.map_append], hΨ⟩ I2 (F1.trans F2 F1.le) (VRs.app (vrs_dats (dpAll_mono F2.same _ _ dv)) r2)
  )]
  intro _ hNoI
  simpa using (fun (_ : NoI.Sg) => hNoI) [5]
end
end SH

/-! {k: v for t in it if c}, the keys tuples -/
namespace SH
open PySem PySem.Spec PyProof.Rows L2
section
variable [WW] (K : PySem.W.Frag)
end
section
variable {X : Cx}
end
end SH

/-! dict comprehensions over data -/
namespace SH
open PySem PySem.Spec PyProof.Rows L2
section
variable [WW] {K : PySem.W.Frag} {Zc : Addr → Prop} {ad ad' ad2 : List Addr} {H H' H2 : Hp} {m m' m2 : Mem} {σ σ' : L2.St} {s s' s1 : S} {n : Nat} {Q : VK} {Φ : SV → S → Prop} {De : DE}
end
end SH

/-! walks of dicts: their keys, values, pairs -/
namespace SH
open PySem PySem.Spec PyProof.Rows L2
section
variable [WW]
/-- a dict's entries, as values -/
def EntOf (d : Addr) (u : HO) (ps : List (V × V)) : Prop := (∃ kvs : List (Key × V), u = .dK kvs ∧ ps = kvs.map fun p => (kV p.1, p.2)) ∨ ∃ xs : List XE, u = DXo d xs ∧ ps = xs.map fun x => (V.ref x.2.1, x.2.2)
theorem EntOf.dc {d : Addr} {u : HO} {ps : List (V × V)} (h : EntOf d u ps) : Dc u = true ∧ Mut (some u) := by
  rcases h with ⟨_, rfl, _⟩ | ⟨_, rfl, _⟩ <;> exact ⟨rfl, True.intro⟩
def ItkD (d : Addr) (o : Obj) (u : HO) (ps : List (V × V)) : It :=
  ⟨fun i H => H d = some (.frz o u) ∧ i < ps.length, fun i H x H' => H' = H ∧ ∃ y, ps[i]? = some (x, y), fun i H => H d = some (.frz o u) ∧ ps.length ≤ i⟩
def ItvD (d : Addr) (o : Obj) (u : HO) (ps : List (V × V)) : It :=
  ⟨fun i H => H d = some (.frz o u) ∧ i < ps.length, fun i H x H' => H' = H ∧ ∃ y, ps[i]? = some (y, x), fun i H => H d = some (.frz o u) ∧ ps.length ≤ i⟩
def ItiD (d : Addr) (o : Obj) (u : HO) (ps : List (V × V)) : It :=
  ⟨fun i H => H d = some (.frz o u) ∧ i < ps.length, fun i H x H' => ∃ T k v, ps[i]? = some (k, v) ∧ x = .ref T ∧ H T = none ∧ H' = upd H T (.tup [k, v]), fun i H => H d = some (.frz o u) ∧ ps.length ≤ i⟩
/-- it is locked already, or it is locked now -/
def LkR (H : Hp) (d : Addr) (u : HO) (R : Obj → Hp → Prop) : Prop := (∃ o, H d = some (.frz o u) ∧ R o H) ∨ (H d = some u ∧ ∀ o, R o (upd H d (.frz o u)))
end
section
variable {X : Cx} {pins : List (Addr × Obj)} {σ : L2.St} {H : Hp} {s : Shared} {d : Addr} {o : Obj} {u : HO} {ps : List (V × V)}
end
section
variable {P : Program} {w : World} {K : PySem.W.Frag} {tg : Expr} {d : Addr} {o : Obj} {es : Array DictEntry} {ep : Nat} {u : HO} {ps : List (V × V)}
end
section
variable [WW]
def iValsD (td : TE) : TI := fun σ H R => td σ H fun x H1 => ∃ d u ps, x = .ref d ∧ EntOf d u ps ∧ LkR H1 d u fun o H2 => R (ItvD d o u ps) H2
def iItemsD (td : TE) : TI := fun σ H R => td σ H fun x H1 => ∃ d u ps, x = .ref d ∧ EntOf d u ps ∧ LkR H1 d u fun o H2 => R (ItiD d o u ps) H2
end
section
variable {X : Cx} {tg e : Expr} {td : TE} {apos cpos : Pos}
end
section
variable [WW] {K : PySem.W.Frag} {Zc : Addr → Prop} {ad ad' : List Addr} {H H' : Hp} {m m' : Mem} {σ : L2.St} {s s' : S} {Φ : SV → S → Prop}
/-- a dict of data comes to be locked -/
theorem sr_lock {d : Addr} {u : HO} {o : Obj} (h : SR K Zc ad H σ s) (hd : FZ Zc ad s.mem H d = some u) (dc : Dc u = true) :
    SR K Zc ad (upd H d (.frz o u)) σ s ∧ Frm Zc s.mem.length ad s.mem H ad s.mem (upd H d (.frz o u)) ∧ FZ Zc ad s.mem (upd H d (.frz o u)) d = some (.frz o u) := by
  refine NoI.keep (fun _ wNoI => ?_) ?_
  simp only [↓ NoI.wrOf wNoI (by
  clear wNoI
  obtain ⟨nz, h1⟩ := Fz_inv hd
  have sm : SmZ (ZZ Zc ad s.mem) H (upd H d (.frz o u)) := fun b x e => by
    by_cases z : b = d
    · subst z
      rw [h1] at e
      cases e
      exact .inr ⟨nz, dc, o, upd_same⟩
    · exact .inl (by rw [upd_ne z]; exact e)
  exact ⟨h.same sm, Frm.ofSame sm, Fz_of nz upd_same⟩
  )]
  intro _ hNoI
  simpa using (fun (_ : NoI.Sg) => hNoI) [5]
/-- the entries are data -/
def EntD (K : PySem.W.Frag) (H : Hp) (ps : List (V × V)) (es : List (D × D)) : Prop := DVs K H (ps.map (·.1)) (es.map (·.1)) ∧ DVs K H (ps.map (·.2)) (es.map (·.2))
theorem kvs_dvs : ∀ {kvs : List (Key × V)}, DVs K H (kvs.map fun p => kV p.1) (kvs.map fun p => kD p.1)
  | [] => .nil
  | (.inl i, _) :: r => .cons (.int i) kvs_dvs
  | (.inr x, _) :: r => .cons (.str x) kvs_dvs
theorem dks_kdvs : ∀ {xs : List XE} {es : List (D × D)}, DKs K H xs es → DVs K H (xs.map fun x => V.ref x.2.1) (es.map (·.1))
  | _, _, .nil => .nil
  | _, _, .cons h1 _ t => .cons h1 (dks_kdvs t)
theorem dict_ent {v : V} {es : List (D × D)} (h : DV K H v (.dict es)) : ∃ d u ps, v = .ref d ∧ EntOf d u ps ∧ Rd H d u ∧ EntD K H ps es := by
  refine NoI.keep (fun _ wNoI => ?_) ?_
  simp only [↓ NoI.wrOf wNoI (by
  clear wNoI
  cases h with
  | dK h1 h2 h3 =>
    refine ⟨_, _, _, rfl, .inl ⟨_, rfl, rfl⟩, h1, ?_, ?_⟩
    · rw [h2, List.map_map]; exact kvs_dvs
    · rw [List.map_map]; exact h3
  | dX h1 h2 =>
    refine ⟨_, _, _, rfl, .inr ⟨_, rfl, rfl⟩, h1, ?_, ?_⟩
    · rw [List.map_map]; exact dks_kdvs h2
    · rw [List.map_map]; exact dks_vals h2
  )]
  intro _ hNoI
  simpa using (fun (_ : NoI.Sg) => hNoI) [5]
theorem EntD.mono (e : Same H H') {ps : List (V × V)} {es : List (D × D)} (h : EntD K H ps es) : EntD K H' ps es := ⟨dpAll_mono e _ _ h.1, dpAll_mono e _ _ h.2⟩
/-- locked, one way or the other -/
theorem lk_of {d : Addr} {u : HO} {ps : List (V × V)} {es : List (D × D)} {R : Obj → Hp → Prop} (I : SR K Zc ad H σ s) (en : EntOf d u ps) (h : Rd (FZ Zc ad s.mem H) d u) (hd : EntD K (FZ Zc ad s.mem H) ps es)
    (k : ∀ o H', SR K Zc ad H' σ s → Frm Zc s.mem.length ad s.mem H ad s.mem H' → FZ Zc ad s.mem H' d = some (.frz o u) → EntD K (FZ Zc ad s.mem H') ps es → R o H') : LkR H d u R := by
  refine NoI.keep (fun _ wNoI => ?_) ?_
  simp only [↓ NoI.wrOf wNoI (by
  clear wNoI
  rcases h with h | ⟨o, h⟩
  · refine .inr ⟨Fz_at h, fun o => ?_⟩
    obtain ⟨a, b, c⟩ := sr_lock (o := o) I h en.dc.1
    exact k o _ a b c (hd.mono b.same)
  · exact .inl ⟨o, Fz_at h, k o _ I (.refl (Nat.le_refl _)) h hd⟩
  )]
  intro _ hNoI
  simpa using (fun (_ : NoI.Sg) => hNoI) [5]
section
variable {d : Addr} {o : Obj} {u : HO} {ps : List (V × V)} {es : List (D × D)} {F : Hp}
theorem jok_keysD (h : F d = some (.frz o u)) (hd : EntD K F ps es) : JOk K Zc (ItkD d o u ps) (es.map (·.1)) F := by
  refine NoI.keep (fun _ wNoI => ?_) ?_
  simp only [↓ NoI.wrOf wNoI (by
  clear wNoI
  intro i ad H m e M
  have hH : H d = some (.frz o u) := Fz_at (e.nd h rfl)
  have hl : (es.map (·.1)).length = ps.length := by rw [← dpAll_len hd.1, List.length_map]
  have hv := dpAll_mono e _ _ hd.1
  refine ⟨fun hi => ⟨⟨hH, by omega⟩, fun x H' y => ?_⟩, fun hi => ⟨hH, by omega⟩⟩
  obtain ⟨rfl, z, hz⟩ := y
  exact ⟨.inl rfl, dpAll_get' hv (by rw [List.getElem?_map, hz]; rfl)⟩
  )]
  intro _ hNoI
  simpa using (fun (_ : NoI.Sg) => hNoI) [5]
theorem jok_valsD (h : F d = some (.frz o u)) (hd : EntD K F ps es) : JOk K Zc (ItvD d o u ps) (es.map (·.2)) F := by
  refine NoI.keep (fun _ wNoI => ?_) ?_
  simp only [↓ NoI.wrOf wNoI (by
  clear wNoI
  intro i ad H m e M
  have hH : H d = some (.frz o u) := Fz_at (e.nd h rfl)
  have hl : (es.map (·.2)).length = ps.length := by rw [← dpAll_len hd.2, List.length_map]
  have hv := dpAll_mono e _ _ hd.2
  refine ⟨fun hi => ⟨⟨hH, by omega⟩, fun x H' y => ?_⟩, fun hi => ⟨hH, by omega⟩⟩
  obtain ⟨rfl, z, hz⟩ := y
  exact ⟨.inl rfl, dpAll_get' hv (by rw [List.getElem?_map, hz]; rfl)⟩
  )]
  intro _ hNoI
  simpa using (fun (_ : NoI.Sg) => hNoI) [5]
/-- a pair of two texts is no pair of such a walk -/
def pairD (es : List (D × D)) : List D := es.map fun p => .tuple [p.1, p.2]
theorem jok_itemsD (h : F d = some (.frz o u)) (hd : EntD K F ps es) (hs : ∀ p ∈ es, strsD [p.1, p.2] = false) : JOk K Zc (ItiD d o u ps) (pairD es) F := by
  refine NoI.keep (fun _ wNoI => ?_) ?_
  simp only [↓ NoI.wrOf wNoI (by
  clear wNoI
  intro i ad H m e M
  have hH : H d = some (.frz o u) := Fz_at (e.nd h rfl)
  have hl : es.length = ps.length := by have := dpAll_len hd.1; simpa using this.symm
  refine ⟨fun hi => ⟨⟨hH, by simpa [pairD, hl] using hi⟩, fun x H' y => ?_⟩, fun hi => ⟨hH, by simpa [pairD, hl] using hi⟩⟩
  obtain ⟨T, k, v, hz, rfl, hT, rfl⟩ := y
  have F1 : Frm Zc m.length ad m H ad m (upd H T (.tup [k, v])) := Frm.newT hT
  have e1 := e.trans F1.same
  have hi : i < es.length := by rw [hl]; exact (List.getElem?_eq_some_iff.mp hz).1
  obtain ⟨a, ha, ra⟩ := dpAll_get' (dpAll_mono e1 _ _ hd.1) (v := k) (i := i) (by rw [List.getElem?_map, hz]; rfl)
  obtain ⟨b, hb, rb⟩ := dpAll_get' (dpAll_mono e1 _ _ hd.2) (v := v) (i := i) (by rw [List.getElem?_map, hz]; rfl)
  rw [List.getElem?_map, List.getElem?_eq_getElem hi] at ha hb
  cases ha
  cases hb
  exact ⟨.inr ⟨T, _, hT, rfl⟩, .tuple [es[i].1, es[i].2], by rw [pairD, List.getElem?_map, List.getElem?_eq_getElem hi]; rfl,
    .tup (.inr ⟨hs _ (List.getElem_mem hi), M.newT_at hT⟩) (.cons ra (.cons rb .nil))⟩
  )]
  intro _ hNoI
  simpa using (fun (_ : NoI.Sg) => hNoI) [5]
end
theorem it_valsD {te : TE} {Ψ : List D → S → Prop} (h : EvS K Zc te s (asD fun d s' => ∃ es, d = .dict es ∧ Ψ (es.map (·.2)) s')) : IterS K Zc (iValsD te) s Ψ := by
  refine NoI.keep (fun _ wNoI => ?_) ?_
  simp only [↓ NoI.wrOf wNoI (by
  clear wNoI
  intro ad H σ R I p
  refine ev_asD (Φ := fun sv s' => ∃ es, sv = .dat (.dict es) ∧ Ψ (es.map (·.2)) s') h (fun d s' ⟨es, e, k⟩ => ⟨es, by rw [e], k⟩) ad H σ _ I fun v ad1 H1 sv s1 h1 I1 F1 r1 => ?_
  obtain ⟨es, rfl, k⟩ := h1
  obtain ⟨d, u, ps, rfl, en, hr, hd⟩ := dict_ent r1
  exact ⟨d, u, ps, rfl, en, lk_of I1 en hr hd fun o H' I2 F2 hf hd2 => p _ ad1 H' _ s1 k I2 (F1.trans F2 F1.le) (jok_valsD hf hd2)⟩
  )]
  intro _ hNoI
  simpa using (fun (_ : NoI.Sg) => hNoI) [5]
theorem it_itemsD {te : TE} {Ψ : List D → S → Prop} (h : EvS K Zc te s (asD fun d s' => ∃ es, d = .dict es ∧ (∀ p ∈ es, strsD [p.1, p.2] = false) ∧ Ψ (pairD es) s')) : IterS K Zc (iItemsD te) s Ψ := by
  refine NoI.keep (fun _ wNoI => ?_) ?_
  simp only [↓ NoI.wrOf wNoI (by
  clear wNoI
  intro ad H σ R I p
  refine ev_asD (Φ := fun sv s' => ∃ es, sv = .dat (.dict es) ∧ (∀ p ∈ es, strsD [p.1, p.2] = false) ∧ Ψ (pairD es) s') h (fun d s' ⟨es, e, k⟩ => ⟨es, by rw [e], k⟩) ad H σ _ I fun v ad1 H1 sv s1 h1 I1 F1 r1 => ?_
  obtain ⟨es, rfl, hs, k⟩ := h1
  obtain ⟨d, u, ps, rfl, en, hr, hd⟩ := dict_ent r1
  exact ⟨d, u, ps, rfl, en, lk_of I1 en hr hd fun o H' I2 F2 hf hd2 => p _ ad1 H' _ s1 k I2 (F1.trans F2 F1.le) (jok_itemsD hf hd2 hs)⟩
  )]
  intro _ hNoI
  simpa using (fun (_ : NoI.Sg) => hNoI) [5]
end
end SH

/-! zip(a, b) walked, of two tuples or two lists -/
namespace SH
open PySem PySem.Spec PyProof.Rows L2
section
variable [WW]
def ItzT (K : PySem.W.Frag) (a b : Addr) : It :=
  ⟨fun i H => ∃ (xs ys : List V) (x y : V), SqT K H a xs ∧ SqT K H b ys ∧ xs[i]? = some x ∧ ys[i]? = some y,
    fun i H v H' => ∃ T x y, v = .ref T ∧ H T = none ∧ H' = upd H T (.tup [x, y]) ∧ (∀ xs, SqT K H a xs → xs[i]? = some x) ∧ ∀ ys, SqT K H b ys → ys[i]? = some y,
    fun i H => ∃ xs ys : List V, SqT K H a xs ∧ SqT K H b ys ∧ (xs.length ≤ i ∨ ys.length ≤ i)⟩
end
section
variable [WW]
def iZipU (K : PySem.W.Frag) (ta : TA) : TI := fun σ H R => ta σ H fun vs H1 => ∃ a b xs ys, vs = [.ref a, .ref b] ∧ ((SqL K H1 a xs ∧ SqL K H1 b ys ∧ R (Itz K a b) H1) ∨ (SqT K H1 a xs ∧ SqT K H1 b ys ∧ R (ItzT K a b) H1))
end
/-- the pairs -/
def zipD (xs ys : List D) : List D := (xs.zip ys).map fun p => .tuple [p.1, p.2]
section
variable [WW] {K : PySem.W.Frag} {Zc : Addr → Prop} {s : S}
theorem zipD_len {xs ys : List D} : (zipD xs ys).length = min xs.length ys.length := by simp [zipD]
theorem dv_two {ad : List Addr} {H : Hp} {m : Mem} {x y : V} {d e : D} {T : Addr} (M : MR K Zc ad H m) (hT : H T = none) (hs : strsD [d, e] = false) (r : DV K (FZ Zc ad m H) x d) (r2 : DV K (FZ Zc ad m H) y e) : DV K (FZ Zc ad m (upd H T (.tup [x, y]))) (.ref T) (.tuple [d, e]) :=
  .tup (.inr ⟨hs, M.newT_at hT⟩) (.cons (dp_mono (Frm.newT (ad := ad) (m := m) hT).same _ _ r) (.cons (dp_mono (Frm.newT (ad := ad) (m := m) hT).same _ _ r2) .nil))
theorem jok_zip {a b : Addr} {vs us : List V} {xs ys : List D} {F : Hp} (h : F a = some (.lst vs)) (hv : DVs K F vs xs) (h2 : F b = some (.lst us)) (hu : DVs K F us ys) (hs : ∀ p ∈ xs.zip ys, strsD [p.1, p.2] = false) : JOk K Zc (Itz K a b) (zipD xs ys) F := by
  refine NoI.keep (fun _ wNoI => ?_) ?_
  simp only [↓ NoI.wrOf wNoI (by
  clear wNoI
  intro i ad H m e M
  have ha : SqL K H a vs := SqL.of (Fz_at (e.nd h rfl))
  have hb : SqL K H b us := SqL.of (Fz_at (e.nd h2 rfl))
  have hv' := dpAll_mono e _ _ hv
  have hu' := dpAll_mono e _ _ hu
  have l1 := dpAll_len hv
  have l2 := dpAll_len hu
  refine ⟨fun hi => ?_, fun hi => ⟨vs, us, ha, hb, by rw [zipD_len] at hi; omega⟩⟩
  rw [zipD_len] at hi
  refine ⟨⟨vs, us, vs[i]'(by omega), us[i]'(by omega), ha, hb, List.getElem?_eq_getElem _, List.getElem?_eq_getElem _⟩, fun x H' y => ?_⟩
  obtain ⟨T, z, w, rfl, hT, rfl, hz, hw⟩ := y
  obtain ⟨d, hd, r⟩ := dpAll_get' hv' (hz vs ha)
  obtain ⟨d2, hd2, r2⟩ := dpAll_get' hu' (hw us hb)
  have hp : (xs.zip ys)[i]? = some (d, d2) := List.getElem?_zip_eq_some.mpr ⟨hd, hd2⟩
  exact ⟨.inr ⟨T, _, hT, rfl⟩, .tuple [d, d2], by rw [zipD, List.getElem?_map, hp]; rfl, dv_two M hT (hs _ (List.mem_of_getElem? hp)) r r2⟩
  )]
  intro _ hNoI
  simpa using (fun (_ : NoI.Sg) => hNoI) [5]
theorem jok_zipT {a b : Addr} {vs us : List V} {xs ys : List D} {F : Hp} (h : SqT K F a vs) (hv : DVs K F vs xs) (h2 : SqT K F b us) (hu : DVs K F us ys) (hs : ∀ p ∈ xs.zip ys, strsD [p.1, p.2] = false) : JOk K Zc (ItzT K a b) (zipD xs ys) F := by
  refine NoI.keep (fun _ wNoI => ?_) ?_
  simp only [↓ NoI.wrOf wNoI (by
  clear wNoI
  intro i ad H m e M
  have ha : SqT K H a vs := sqT_same Fz_le (sqT_same e h)
  have hb : SqT K H b us := sqT_same Fz_le (sqT_same e h2)
  have hv' := dpAll_mono e _ _ hv
  have hu' := dpAll_mono e _ _ hu
  have l1 := dpAll_len hv
  have l2 := dpAll_len hu
  refine ⟨fun hi => ?_, fun hi => ⟨vs, us, ha, hb, by rw [zipD_len] at hi; omega⟩⟩
  rw [zipD_len] at hi
  refine ⟨⟨vs, us, vs[i]'(by omega), us[i]'(by omega), ha, hb, List.getElem?_eq_getElem _, List.getElem?_eq_getElem _⟩, fun x H' y => ?_⟩
  obtain ⟨T, z, w, rfl, hT, rfl, hz, hw⟩ := y
  obtain ⟨d, hd, r⟩ := dpAll_get' hv' (hz vs ha)
  obtain ⟨d2, hd2, r2⟩ := dpAll_get' hu' (hw us hb)
  have hp : (xs.zip ys)[i]? = some (d, d2) := List.getElem?_zip_eq_some.mpr ⟨hd, hd2⟩
  exact ⟨.inr ⟨T, _, hT, rfl⟩, .tuple [d, d2], by rw [zipD, List.getElem?_map, hp]; rfl, dv_two M hT (hs _ (List.mem_of_getElem? hp)) r r2⟩
  )]
  intro _ hNoI
  simpa using (fun (_ : NoI.Sg) => hNoI) [5]
theorem it_zip {ta : TA} {Ψ : List D → S → Prop} (h : ArD K Zc ta s fun ds s' => ∃ d e xs ys, ds = [d, e] ∧ ((d = .list xs ∧ e = .list ys) ∨ (d = .tuple xs ∧ e = .tuple ys)) ∧ (∀ p ∈ xs.zip ys, strsD [p.1, p.2] = false) ∧ Ψ (zipD xs ys) s') : IterS K Zc (iZipU K ta) s Ψ := by
  refine NoI.keep (fun _ wNoI => ?_) ?_
  simp only [↓ NoI.wrOf wNoI (by
  clear wNoI
  intro ad H σ R I p
  refine h ad H σ _ I fun vs ad1 H1 svs s1 h1 I1 F1 r1 => ?_
  obtain ⟨ds, hx, d, e, xs, ys, rfl, hk, hs, k⟩ := h1
  subst hx
  obtain ⟨v, u, rfl, r, r'⟩ := vrs2 r1
  rcases hk with ⟨rfl, rfl⟩ | ⟨rfl, rfl⟩
  · obtain ⟨a, ws, rfl, h2, h3⟩ := lst_of (show DV K _ v (.list xs) from r)
    obtain ⟨b, us, rfl, h4, h5⟩ := lst_of (show DV K _ u (.list ys) from r')
    exact ⟨a, b, ws, us, rfl, .inl ⟨SqL.of (Fz_at h2), SqL.of (Fz_at h4), p _ ad1 H1 _ s1 k I1 F1 (jok_zip h2 h3 h4 h5 hs)⟩⟩
  · obtain ⟨a, ws, rfl, h2, h3⟩ := tup_of (show DV K _ v (.tuple xs) from r)
    obtain ⟨b, us, rfl, h4, h5⟩ := tup_of (show DV K _ u (.tuple ys) from r')
    exact ⟨a, b, ws, us, rfl, .inr ⟨sqT_same Fz_le h2, sqT_same Fz_le h4, p _ ad1 H1 _ s1 k I1 F1 (jok_zipT h2 h3 h4 h5 hs)⟩⟩
  )]
  intro _ hNoI
  simpa using (fun (_ : NoI.Sg) => hNoI) [5]
end
end SH

/-! walks of whatever it is, a dict too; len of whatever it is; len(set(l)) -/
namespace SH
open PySem PySem.Spec PyProof.Rows L2
section
variable [WW]
def iWalk (K : PySem.W.Frag) (te : TE) : TI := fun σ H R => te σ H fun x H1 => ((∃ a, x = .ref a ∧ (∃ xs, SqL K H1 a xs) ∧ R (Itl K a) H1) ∨ (∃ a, x = .ref a ∧ (∃ xs, SqT K H1 a xs) ∧ R (Itt K a) H1) ∨ ∃ z, x = .str z ∧ R (Its z) H1) ∨
  ∃ d u ps, x = .ref d ∧ EntOf d u ps ∧ LkR H1 d u fun o H2 => R (ItkD d o u ps) H2
def rLenX (K : PySem.W.Frag) : List V → Hp → VK → Prop := fun xs H Q => rLenU K xs H Q ∨ (∃ a kvs, xs = [.ref a] ∧ Rd H a (.dK kvs) ∧ Q (.int (kvs.length : Nat)) H) ∨ ∃ a ys es, xs = [.ref a] ∧ Rd H a (DXo a ys) ∧ DKs K H ys es ∧ Q (.int (ys.length : Nat)) H
end
/-- what is walked, item by item -/
def walkD : D → Option (List D)
  | .list ds => some ds
  | .tuple ds => some ds
  | .str z => some (strD z)
  | .dict es => some (es.map (·.1))
  | _ => none
def lenD : D → Option Nat
  | .list ds => some ds.length
  | .tuple ds => some ds.length
  | .dict es => some es.length
  | _ => none
section
variable [WW] {K : PySem.W.Frag} {Zc : Addr → Prop} {s : S} {x : SV} {Φ : SV → S → Prop}
theorem it_walk {te : TE} {Ψ : List D → S → Prop} (h : EvS K Zc te s (asD fun d s' => ∃ ds, walkD d = some ds ∧ Ψ ds s')) : IterS K Zc (iWalk K te) s Ψ := by
  refine NoI.keep (fun _ wNoI => ?_) ?_
  simp only [↓ NoI.wrOf wNoI (by
  clear wNoI
  intro ad H σ R I p
  refine ev_asD (Φ := fun sv s' => ∃ d ds, sv = .dat d ∧ walkD d = some ds ∧ Ψ ds s') h (fun d s' ⟨ds, e, k⟩ => ⟨d, ds, rfl, e, k⟩) ad H σ _ I fun v ad1 H1 sv s1 h1 I1 F1 r1 => ?_
  obtain ⟨d, ds, rfl, e, k⟩ := h1
  cases d with
  | list es =>
    cases e
    obtain ⟨a, vs, rfl, h2, h3⟩ := lst_of r1
    exact .inl (.inl ⟨a, rfl, ⟨vs, SqL.of (Fz_at h2)⟩, p _ ad1 H1 ds s1 k I1 F1 (jok_list h2 h3)⟩)
  | tuple es =>
    cases e
    obtain ⟨a, vs, rfl, h2, h3⟩ := tup_of r1
    exact .inl (.inr (.inl ⟨a, rfl, ⟨vs, sqT_same Fz_le h2⟩, p _ ad1 H1 ds s1 k I1 F1 (jok_tup h2 h3)⟩))
  | str z =>
    cases e
    cases r1
    exact .inl (.inr (.inr ⟨z, rfl, p _ ad1 H1 _ s1 k I1 F1 jok_str⟩))
  | dict es =>
    cases e
    obtain ⟨d, u, ps, rfl, en, hr, hd⟩ := dict_ent r1
    exact .inr ⟨d, u, ps, rfl, en, lk_of I1 en hr hd fun o H' I2 F2 hf hd2 => p _ ad1 H' _ s1 k I2 (F1.trans F2 F1.le) (jok_keysD hf hd2)⟩
  | none => cases e
  | bool _ => cases e
  | int _ => cases e
  )]
  intro _ hNoI
  simpa using (fun (_ : NoI.Sg) => hNoI) [5]
theorem cb_lx {d : D} {n : Nat} (h1 : rd s.mem x = some d) (hn : lenD d = some n) (k : Φ (.dat (.int n)) s) : CbS K Zc (rLenX K) [x] s Φ := by
  refine NoI.keep (fun _ wNoI => ?_) ?_
  simp only [↓ NoI.wrOf wNoI (by
  clear wNoI
  intro ad H σ vs Q I r p
  obtain ⟨v, rfl, r1⟩ := vrs1 r
  cases d with
  | list ds => cases hn; exact .inl (cb_lenL h1 k ad H σ _ Q I r p)
  | tuple ds => cases hn; exact .inl (cb_lenT h1 k ad H σ _ Q I r p)
  | dict es =>
    cases hn
    have dv := rd_D I.mr r1 h1
    cases dv with
    | dK a1 b1 c1 =>
      refine .inr (.inl ⟨_, _, rfl, a1, ?_⟩)
      have hl := dpAll_len c1
      simp only [List.length_map] at hl
      rw [hl]
      exact p.val I k (sv := .dat _) (.int _)
    | dX a1 b1 =>
      refine .inr (.inr ⟨_, _, _, rfl, a1, b1, ?_⟩)
      have hl := dpAll_len (dks_vals b1)
      simp only [List.length_map] at hl
      rw [hl]
      exact p.val I k (sv := .dat _) (.int _)
  | none => cases hn
  | bool _ => cases hn
  | int _ => cases hn
  | str _ => cases hn
  )]
  intro _ hNoI
  simpa using (fun (_ : NoI.Sg) => hNoI) [5]
/-- len(set(l)), l a list of unlike ints -/
theorem ev_lenSet {te : TE} (h : EvS K Zc te s (asD fun d s' => ∃ ns : List Int, d = .list (ns.map .int) ∧ ns.Nodup ∧ ns.length ≤ 4000 ∧ Φ (.dat (.int ns.length)) s')) : EvS K Zc (RZ.tLenSetI K te) s Φ := by
  refine NoI.keep (fun _ wNoI => ?_) ?_
  simp only [↓ NoI.wrOf wNoI (by
  clear wNoI
  intro ad H σ Q I p
  refine ev_asD (Φ := fun sv s' => ∃ ns : List Int, sv = .dat (.list (ns.map .int)) ∧ ns.Nodup ∧ ns.length ≤ 4000 ∧ Φ (.dat (.int ns.length)) s') h (fun d s' ⟨ns, e, k⟩ => ⟨ns, by rw [e], k⟩) ad H σ _ I fun v ad1 H1 sv s1 h1 I1 F1 r1 => ?_
  obtain ⟨ns, rfl, hn, hz, k⟩ := h1
  obtain ⟨a, vs, rfl, h2, h3⟩ := lst_of (show DV K _ v (.list (ns.map .int)) from r1)
  have := dpAll_ints h3
  subst this
  exact ⟨a, ns, rfl, SqL.of (Fz_at h2), hn, hz, (p.step F1).val I1 k (sv := .dat _) (.int _)⟩
  )]
  intro _ hNoI
  simpa using (fun (_ : NoI.Sg) => hNoI) [5]
end
end SH

/-! a dict comprehension with a test, unlike keys -/
namespace SH
open PySem PySem.Spec PyProof.Rows L2
variable [WW] {K : PySem.W.Frag} {Zc : Addr → Prop} {s s' s1 : S} {Φ : SV → S → Prop}
end SH

/-! d.get(k, x), d a dict with tuple keys -/
namespace SH
open PySem PySem.Spec PyProof.Rows L2
section
variable [WW]
def tDGX (K : PySem.W.Frag) (td ty tx : TE) : TE := fun σ H Q => td σ H fun x H1 => ∃ (a : Addr) (xs : List XE) (es : List (TK × D)), x = .ref a ∧ IsX H1 a xs ∧ KX K H1 xs es ∧ ty σ H1 fun y H2 => tx σ H2 fun z H3 =>
  ∃ (b : Addr) (xs : List XE) (es : List (TK × D)) (k : TK), y = .ref b ∧ IsX H3 a xs ∧ KX K H3 xs es ∧ KeyX K H3 b k ∧ Q ((atX xs k).getD z) H3
end
section
variable [WW] {K : PySem.W.Frag} {Zc : Addr → Prop} {s : S} {Φ : SV → S → Prop}
theorem ev_dgX {td ty tx : TE} (h : EvS K Zc td s fun x s1 => ∃ es0, rd s1.mem x = some (.dict (dx es0)) ∧ EvS K Zc ty s1 fun y s2 => EvS K Zc tx s2 fun z s3 =>
    ∃ es k d, rd s3.mem x = some (.dict (dx es)) ∧ rd s3.mem y = some (kx k) ∧ (NestedKey.tup k).depth ≤ 8 ∧ z = .dat d ∧ Φ (.dat ((lkX es k).getD d)) s3) : EvS K Zc (tDGX K td ty tx) s Φ := by
  refine NoI.keep (fun _ wNoI => ?_) ?_
  simp only [↓ NoI.wrOf wNoI (by
  clear wNoI
  intro ad H σ Q I p
  refine h ad H σ _ I fun v1 ad1 H1 x s1 h1 I1 F1 r1 => ?_
  obtain ⟨es0, e0, h1⟩ := h1
  obtain ⟨a, xs, rfl, hX, hK⟩ := rd_x I1.mr r1 e0
  refine ⟨a, xs, es0, rfl, hX, hK.mono Fz_le, ?_⟩
  refine h1 ad1 H1 σ _ I1 fun v2 ad2 H2 y s2 h2 I2 F2 r2 => ?_
  refine h2 ad2 H2 σ _ I2 fun v3 ad3 H3 z s3 h3 I3 F3 r3 => ?_
  obtain ⟨es, k, d, e1, e2, hz, rfl, q⟩ := h3
  obtain ⟨a', xs', ea, hX', hK'⟩ := rd_x I3.mr ((r1.frm F2).frm F3) e1
  cases ea
  obtain ⟨b, rfl, hk⟩ := rd_key2 I3.mr (r2.frm F3) e2 hz
  refine ⟨b, xs', es, k, rfl, hX', hK'.mono Fz_le, hk, ?_⟩
  have F13 := (F1.trans F2 F1.le).trans F3 (Nat.le_trans F1.le F2.le)
  refine p _ ad3 H3 _ s3 q I3 F13 ?_
  cases e : lkX es k with
  | none => rw [(hK'.at (k := k)).2 e]; exact r3
  | some d' =>
    obtain ⟨w, e1, e2⟩ := (hK'.at (k := k)).1 d' e
    rw [e1]
    exact e2
  )]
  intro _ hNoI
  simpa using (fun (_ : NoI.Sg) => hNoI) [5]
/-- reversed(range(n)) -/
theorem it_revR1 {ta : TE} {Ψ : List D → S → Prop} (h : EvS K Zc ta s fun x s1 => ∃ j : Int, x = .dat (.int j) ∧ (-(2 ^ 62) ≤ j ∧ j < 2 ^ 62) ∧ Ψ (rangeC (0 + (((j - 0).toNat : Nat) : Int) - 1) (-1) (j - 0).toNat) s1) : IterS K Zc (iRevR (tRg1 ta)) s Ψ := by
  refine NoI.keep (fun _ wNoI => ?_) ?_
  simp only [↓ NoI.wrOf wNoI (by
  clear wNoI
  intro ad H σ R I p
  refine h ad H σ _ I fun v ad1 H1 x s1 h1 I1 F1 r1 => ?_
  obtain ⟨j, rfl, b, k⟩ := h1
  cases r1
  exact ⟨j, rfl, by decide, by decide, b.1, b.2, p _ ad1 H1 _ s1 k I1 F1 jok_rangeC⟩
  )]
  intro _ hNoI
  simpa using (fun (_ : NoI.Sg) => hNoI) [5]
end
end SH

/-! the empty tuple so many times -/
namespace SH
open PySem PySem.Spec PyProof.Rows L2
/-! a tuple or list of whatever items against the empty one -/
section
variable [WW]
end
section
variable [WW] {K : PySem.W.Frag} {Zc : Addr → Prop} {s : S} {x y : SV} {Φ : SV → S → Prop}
end
end SH

/-! d.clear() for dicts of tuple keys; sum(d.values()); len(set(l)) where all items are one int -/
namespace SH
open PySem PySem.Spec PyProof.Rows L2
section
variable {X : Cx}
end
/-! len(set(l)), all items the same int -/
/-! the rules -/
section
variable [WW] {K : PySem.W.Frag} {Zc : Addr → Prop} {s : S} {x y : SV} {Φ : SV → S → Prop}
end
end SH

/-! a name of the module that holds an int -/
namespace SH
open PySem PySem.Spec PyProof.Rows L2
end SH

/-! sets whose members are tuples of texts, ints and such tuples: set(l), with fewer than 64 unlike members -/
namespace SH
open PySem PySem.Spec PyProof.Rows L2
/-- the key k stands at b -/
abbrev KAt (P : Program) (w : World) (h : Heap) (k : NestedKey) (b : Addr) : Prop := (nestedKind P w).is h k b
section
variable {P : Program} {w : World} {A : Around} {E : Value → Shared → Prop} {s : Shared}
theorem KAt.keep {h h' : Heap} {k : NestedKey} {b : Addr} (x : KAt P w h k b) (hk : ∀ c ob, h.get? c = some ob → h'.get? c = some ob) : KAt P w h' k b :=
  ⟨NestedIs.at (fun c ob _ _ e _ => hk c ob e) k _ x.1, x.2⟩
theorem KAt.but {h h' : Heap} {k : NestedKey} {b q : Addr} {ob : Obj} {es : Array (Int × Value)} {ep : Nat} {t : SetTable} (x : KAt P w h k b) (e : h.get? q = some ob) (ed : ob.data = .set es ep t) (sb : Heap.SameBut q h h') : KAt P w h' k b := by
  refine ⟨NestedIs.at (fun c oc vs n ec dc => (sb.2 c fun z => ?_).trans ec) k _ x.1, x.2⟩
  rw [z, e] at ec
  cases ec
  rw [ed] at dc
  cases dc
end
end SH

/-! the search in such a set, and adding -/
namespace SH
open PySem PySem.Spec PyProof.Rows L2
/-- a set at a: its entries in the table's order -/
structure StR (P : Program) (w : World) (h : Heap) (a : Addr) (L : List (Addr × NestedKey)) (es : Array (Int × Value)) (ep : Nat) (t : SetTable) : Prop where
  obj : ∃ ob, h.get? a = some ob ∧ ob.ExactSet ∧ ob.data = .set es ep t
  row : es.toList = L.map fun p => (p.2.hash w, Value.ref p.1)
  tab : TabOk t (L.map fun p => p.2.hash w)
  dif : (L.map (·.2)).Nodup
  key : ∀ p ∈ L, KAt P w h p.2 p.1
  led : w.params.followText "set-order" = true ∨ t.led = true
  roo : L.length * 5 < t.mask * 3
  few : L.length < 64
section
variable {P : Program} {w : World} {A : Around} {E : Value → Shared → Prop} {s : Shared} {a : Addr} {L : List (Addr × NestedKey)} {es : Array (Int × Value)} {ep : Nat} {t : SetTable}
theorem StR.len (R : StR P w s.heap a L es ep t) : es.size = L.length := by
  have := congrArg List.length R.row
  simpa using this
end
end SH

/-! adding to such a set, its table laid anew where it is full -/
namespace SH
open PySem PySem.Spec PyProof.Rows L2
section
variable {P : Program} {w : World} {A : Around} {E : Value → Shared → Prop} {s : Shared} {a : Addr} {L : List (Addr × NestedKey)} {es : Array (Int × Value)} {ep : Nat} {t : SetTable}
end
end SH

/-! set(l) of a list or tuple of such keys -/
namespace SH
open PySem PySem.Spec PyProof.Rows L2
/-- what has come in from the first i items -/
structure InK (ks : List (Addr × NestedKey)) (i : Nat) (L : List (Addr × NestedKey)) : Prop where
  from_ : ∀ p ∈ L, p ∈ ks.take i
  all_ : ∀ p ∈ ks.take i, p.2 ∈ L.map (·.2)
theorem InK.next {ks L N : List (Addr × NestedKey)} {i : Nat} {x : Addr × NestedKey} (g : InK ks i L) (h : ks[i]? = some x) (same : x.2 ∈ L.map (·.2) → N = L) (more : x.2 ∉ L.map (·.2) → N.Perm (x :: L)) : InK ks (i + 1) N := by
  refine NoI.keep (fun _ wNoI => ?_) ?_
  simp only [↓ NoI.wrOf wNoI (by
  clear wNoI
  have tk : ks.take (i + 1) = ks.take i ++ [x] := by rw [List.take_succ, h] <;> rfl
  by_cases c : x.2 ∈ L.map (·.2)
  · rw [same c]
    refine ⟨fun p hp => by rw [tk]; exact List.mem_append_left _ (g.from_ p hp), fun p hp => ?_⟩
    rw [tk] at hp
    rcases List.mem_append.mp hp with z | z
    · exact g.all_ p z
    · rw [List.mem_singleton.mp z]; exact c
  · have pm := more c
    refine ⟨fun p hp => ?_, fun p hp => ?_⟩
    · rw [tk]
      rcases List.mem_cons.mp (pm.mem_iff.mp hp) with z | z
      · rw [z]; exact List.mem_append_right _ (List.mem_singleton.mpr rfl)
      · exact List.mem_append_left _ (g.from_ p z)
    · refine (pm.map (·.2)).mem_iff.mpr ?_
      rw [tk] at hp
      rcases List.mem_append.mp hp with z | z
      · exact List.mem_cons_of_mem _ (g.all_ p z)
      · rw [List.mem_singleton.mp z]; exact List.mem_cons_self
  )]
  intro _ hNoI
  simpa using (fun (_ : NoI.Sg) => hNoI) [5]
section
variable {P : Program} {w : World} {A : Around} {E : Value → Shared → Prop} {s : Shared}
theorem StR.keep {h h' : Heap} {a : Addr} {L : List (Addr × NestedKey)} {es : Array (Int × Value)} {ep : Nat} {t : SetTable} (R : StR P w h a L es ep t) (ha : ∀ ob, h.get? a = some ob → h'.get? a = some ob) (hk : ∀ p ∈ L, KAt P w h' p.2 p.1) : StR P w h' a L es ep t := by
  obtain ⟨ob, g, r⟩ := R.obj
  exact ⟨⟨ob, ha ob g, r⟩, R.row, R.tab, R.dif, hk, R.led, R.roo, R.few⟩
end
end SH

/-! the call set(l) -/
namespace SH
open PySem PySem.Spec PyProof.Rows L2
section
variable {P : Program} {w : World} {A : Around} {E : Value → Shared → Prop} {s : Shared}
end
end SH

/-! len(set(l)) and sorted(set(l)) of such keys -/
namespace SH
open PySem PySem.Spec PyProof.Rows L2
section
variable [WW] {X : Cx} {pins : List (Addr × Obj)} {σ : L2.St} {H : Hp} {s : Shared}
end
section
variable {X : Cx} {pins : List (Addr × Obj)} {σ : L2.St} {H : Hp} {s : Shared}
end
/-! the rules -/
section
variable [WW] {K : PySem.W.Frag} {Zc : Addr → Prop} {s : S} {x y : SV} {Φ : SV → S → Prop}
end
end SH

/-! sorted(set(l)) of such keys -/
namespace SH
open PySem PySem.Spec PyProof.Rows L2
theorem perm_lift {α β : Type} {f : α → β} {l1 l2 : List β} (h : l1.Perm l2) : ∀ L : List α, l2 = L.map f → ∃ M : List α, M.Perm L ∧ l1 = M.map f := by
  refine NoI.keep (fun _ wNoI => ?_) ?_
  simp only [↓ NoI.wrOf wNoI (by
  clear wNoI
  induction h with
  | nil =>
    intro L e
    exact ⟨[], by rw [List.map_eq_nil_iff.mp e.symm], rfl⟩
  | cons x _ ih =>
    intro L e
    cases L with
    | nil => cases e
    | cons a L =>
      rw [List.map_cons] at e
      injection e with e1 e2
      obtain ⟨M, p, q⟩ := ih L e2
      exact ⟨a :: M, p.cons a, by rw [List.map_cons, ← e1, ← q]⟩
  | swap x y l =>
    intro L e
    match L, e with
    | a :: b :: L, e =>
      rw [List.map_cons, List.map_cons] at e
      injection e with e1 e2
      injection e2 with e2 e3
      exact ⟨b :: a :: L, List.Perm.swap .., by rw [List.map_cons, List.map_cons, e1, e2, e3]⟩
    | [_], e => cases e
    | [], e => cases e
  | trans _ _ ih1 ih2 =>
    intro L e
    obtain ⟨M, p, q⟩ := ih2 L e
    obtain ⟨N, p2, q2⟩ := ih1 M q
    exact ⟨N, p2.trans p, q2⟩
  )]
  intro _ hNoI
  simpa using (fun (_ : NoI.Sg) => hNoI) [5]
section
variable {X : Cx}
end
section
variable [WW] {K : PySem.W.Frag} {Zc : Addr → Prop} {s : S} {x y : SV} {Φ : SV → S → Prop}
end
end SH

/-! list(d) of a dict; zip of three lists -/
namespace SH
open PySem PySem.Spec PyProof.Rows L2
section
variable {X : Cx} {pins : List (Addr × Obj)} {σ : L2.St} {H : Hp} {s : Shared} {d : Addr} {o : Obj} {u : HO} {ps : List (V × V)}
end
section
variable [WW] {K : PySem.W.Frag} {Zc : Addr → Prop} {s : S} {Φ : SV → S → Prop}
end
/-! zip(a, b, c) -/
section
variable [WW]
end
section
variable [WW]
end
section
variable [WW] {K : PySem.W.Frag} {Zc : Addr → Prop} {s : S}
end
end SH

/-! max(l, key=len), min(l, key=len) of a list of tuples -/
namespace SH
open PySem PySem.Spec PyProof.Rows L2
def bestI (mx : Bool) (ls : List Nat) : Nat :=
  if mx then argBest (fun i j => decide ((fun i => (ls.getD i 0 : Int)) i > (fun i => (ls.getD i 0 : Int)) j)) (ls.length - 1) else argBest (fun i j => decide ((fun i => (ls.getD i 0 : Int)) i < (fun i => (ls.getD i 0 : Int)) j)) (ls.length - 1)
theorem bestI_spec (mx : Bool) {ls : List Nat} (h : 0 < ls.length) : bestI mx ls < ls.length ∧ ∀ j, j < ls.length → if mx then ls.getD j 0 ≤ ls.getD (bestI mx ls) 0 else ls.getD (bestI mx ls) 0 ≤ ls.getD j 0 := by
  refine NoI.keep (fun _ wNoI => ?_) ?_
  simp only [↓ NoI.wrOf wNoI (by
  clear wNoI
  unfold bestI
  cases mx with
  | true =>
    obtain ⟨h1, h2⟩ := argBest_gt (fun i => (ls.getD i 0 : Int)) (ls.length - 1)
    simp only [if_true]
    refine ⟨by omega, fun j hj => ?_⟩
    have := h2 j (by omega)
    omega
  | false =>
    obtain ⟨h1, h2⟩ := argBest_lt (fun i => (ls.getD i 0 : Int)) (ls.length - 1)
    simp only [Bool.false_eq_true, if_false]
    refine ⟨by omega, fun j hj => ?_⟩
    have := h2 j (by omega)
    omega
  )]
  intro _ hNoI
  simpa using (fun (_ : NoI.Sg) => hNoI) [5]
def tBestL (K : PySem.W.Frag) (mx : Bool) (ta : TA) : TE := fun σ H Q => ta σ H fun vs H1 => ∃ (l : Addr) (xs : List V) (ls : List Nat), vs = [.ref l] ∧ SqL K H1 l xs ∧ xs.length = ls.length ∧ 0 < ls.length ∧
  (∀ (i : Nat) (v : V), xs[i]? = some v → ∃ (a : Addr) (ys : List V), v = .ref a ∧ SqT K H1 a ys ∧ ls[i]? = some ys.length) ∧ ∀ v : V, xs[bestI mx ls]? = some v → Q v H1
section
variable {X : Cx}
/-- what stays while it is turned -/
def StayJ (s1 : Shared) (s : Shared) : Prop := (∀ b o, s1.heap.get? b = some o → s.heap.get? b = some o) ∧ s.gens = s1.gens ∧ s.drawn = s1.drawn ∧ s.os = s1.os
theorem key_run {A : Around} {op : CmpOp} {s1 : Shared} {S N : Addr} {its : List Value} {ls : List Nat} {bt : Nat → Nat → Bool} {St : Nat → Heap → Prop} (hN : s1.heap.objs.size ≤ N) (hS : s1.heap.objs.size ≤ S)
    (hl : its.length = ls.length) (hz : ∀ (i : Nat) (v : Value), its[i]? = some v → ∃ (a : Addr) (ys : Array Value), v = .ref a ∧ IsTup s1.heap a ys ∧ (ys.size : Int) < 2 ^ 62 ∧ ls[i]? = some ys.size)
    (hcmp : ∀ i j t t' (s : Shared) (Q : Value → Shared → Prop) (E : Value → Shared → Prop), Q (.bool (bt i j)) s → wpAny (model X.prog X.w) A (richCompare op (.int (ls.getD i 0) t) (.int (ls.getD j 0) t')) Q E s) :
    KeyRun X.prog X.w A (.builtin "len") op S [N] (fun a b => b = a) its.toArray.size (fun i v => its.toArray[i]? = some v) (fun i s => St i s.heap) (StayJ s1) (fun i k _ => ∃ t, k = .int (ls.getD i 0 : Int) t) bt where
  keep := fun s s' ⟨h1, h2, h3, h4⟩ m => ⟨fun b o e => m.heap b o (fun z => by
    have := Heap.lt_size e
    rcases List.mem_cons.mp z with q | q
    · rw [q] at this; exact absurd this (Nat.not_lt.mpr hS)
    · rw [List.mem_singleton.mp q] at this; exact absurd this (Nat.not_lt.mpr hN)) (h1 b o e), m.gens.trans h2, m.drawn.trans h3, m.os.trans h4⟩
  keepV := fun _ _ _ _ h _ => h
  turn := fun i v s o Q E hi hv hj st hS k => by
    obtain ⟨a, ys, rfl, ht, hb, hy⟩ := hz i v (by simpa using hv)
    obtain ⟨o1, g1, r1⟩ := id ht
    refine len_tuple (show IsTup s.heap a ys from ⟨o1, hj.1 _ _ g1, r1⟩) (by omega) (k _ _ ⟨hj.1, hj.2⟩ st hS ⟨s.toks + 1, ?_⟩ fun _ _ h => h)
    rw [List.getD_eq_getElem?_getD, hy]
    rfl
  cmp := fun i j ki kj s Q E _ hi hj q => by
    obtain ⟨t, rfl⟩ := hi
    obtain ⟨t', rfl⟩ := hj
    exact hcmp i j t t' s Q E q
theorem pe_bestL (mx : Bool) {e : Expr} {ta : TA} {p p2 kpos pos : Pos} (hc : X.calm = true) (hg : Gl X (if mx then "max" else "min")) (hm : X.mg (if mx then "max" else "min") = none) (hg2 : Gl X "len") (hm2 : X.mg "len" = none) (pa : PA X [e] ta)
    (he : backTo pos (starEach [e] X.env) = (false, eval e X.env) :: backTo pos (starEach [] X.env) := by rfl) (hpl : (backTo pos (starEach [e] X.env)).any (·.1) = false := by rfl) :
    PE X (.Call (.Name (if mx then "max" else "min") p) [e] [⟨some (Str.ofString "key"), .Name "len" p2, kpos⟩] pos) (tBestL X.K mx ta) := by
  refine NoI.keep (fun _ wNoI => ?_) ?_
  simp only [↓ NoI.wrOf wNoI (by
  clear wNoI
  refine ⟨fun pins s σ H Q I h => ?_⟩
  have fin : ∀ (u : Value) (s1 : Shared) (x : V) (H1 : Hp), L2.Inv X pins σ H1 s1 → RelV x u → (∃ (l : Addr) (xs : List V) (ls : List Nat), x = .ref l ∧ SqL X.K H1 l xs ∧ xs.length = ls.length ∧ 0 < ls.length ∧
      (∀ (i : Nat) (v : V), xs[i]? = some v → ∃ (a : Addr) (ys : List V), v = .ref a ∧ SqT X.K H1 a ys ∧ ls[i]? = some ys.length) ∧ ∀ v : V, xs[bestI mx ls]? = some v → Q v H1) →
      wpAny (model X.prog X.w) X.A (call (.builtin (if mx then "max" else "min")) [u] [(Str.ofString "key", .builtin "len")]) (EP X pins σ Q) X.xe s1 := by
    rintro u s1 x H1 I1 r1 ⟨l, xs, ls, rfl, hl, hlen, hpos, hz, q⟩
    cases r1
    obtain ⟨its, rv, pl, _⟩ := I1.list hl
    have l1 := rv.length
    have hh : X.A.in1.handled = none := I1.ok.hd hc
    have hll : l < s1.heap.objs.size := pl.lt
    have hz2 : ∀ (i : Nat) (v : Value), its[i]? = some v → ∃ (a : Addr) (ys : Array Value), v = .ref a ∧ IsTup s1.heap a ys ∧ (ys.size : Int) < 2 ^ 62 ∧ ls[i]? = some ys.size := fun i v hv => by
      have hi : i < xs.length := by rw [l1]; exact (List.getElem?_eq_some_iff.mp hv).1
      obtain ⟨a, ys, ex, ht, hy⟩ := hz i xs[i] (List.getElem?_eq_getElem hi)
      obtain ⟨w, hw, rw1⟩ := rv.get (List.getElem?_eq_getElem hi)
      rw [hv] at hw
      cases hw
      rw [ex] at rw1
      obtain rfl : v = Value.ref a := rw1
      obtain ⟨its2, rv2, pt, hz3⟩ := I1.tuple ht
      have l2 := rv2.length
      have hn := line63
      exact ⟨a, its2.toArray, rfl, pt, by simp only [List.size_toArray]; have := hz3; unfold sizeLine at this; omega, by rw [hy, List.size_toArray, l2]⟩
    have ends : ∀ (v : Value) (s' : Shared), its.toArray[bestI mx ls]? = some v → StayJ s1 s' → EP X pins σ Q v s' := fun v s' hv hj => by
      obtain ⟨h1, h2, h3, h4⟩ := hj
      obtain ⟨hp, gg, dd, tt, oo⟩ := s'
      cases h2
      cases h3
      cases h4
      have hv : its[bestI mx ls]? = some v := by simpa using hv
      have hi : bestI mx ls < xs.length := by rw [l1]; exact (List.getElem?_eq_some_iff.mp hv).1
      obtain ⟨w, hw, rw1⟩ := rv.get (List.getElem?_eq_getElem hi)
      rw [hv] at hw
      cases hw
      exact ⟨xs[bestI mx ls], H1, I1.kept (h' := hp) (t' := tt) h1, rw1, q _ (List.getElem?_eq_getElem hi)⟩
    cases mx with
    | true =>
      refine call_max_walkKB (wpAny_pyIter_list pl.isList ?_)
      refine ⟨s1.heap.objs.size, _, _, _, its.toArray.size, _, _, StayJ s1, (fun i k _ => ∃ t, k = Value.int (ls.getD i 0 : Int) t), (fun i j => decide ((ls.getD i 0 : Int) > (ls.getD j 0 : Int))), rfl, (Walks.list hh _ l (Nat.ne_of_lt hll) its.toArray).toS, ⟨⟨_, Heap.get?_push_size _ rfl, rfl, rfl⟩, pl.isList.at fun o q => Heap.get?_push_of_some _ q⟩, ?_, by simp; omega,
        key_run (ls := ls) (St := fun i h => h.IsListIter s1.heap.objs.size l i ∧ h.IsList l its.toArray) (Nat.le_refl _) (show s1.heap.objs.size ≤ (s1.heap.push { cls := .type "list_iterator", data := .fields #[.ref l, .int 0 0] }).objs.size by rw [size_push']; exact Nat.le_succ _) (by omega) hz2 fun i j t t' s Q E hq => CmpOf.ints_gt (prog := X.prog) (w := X.w) (A := X.A.in1) (P := fun i v => ∃ t, v = .int (ls.getD i 0 : Int) t) (fun i => (ls.getD i 0 : Int)) (fun i v h => h) i j _ _ _ _ _ ⟨t, rfl⟩ ⟨t', rfl⟩ hq,
        ⟨fun b o e => Heap.get?_push_of_some _ e, rfl, rfl, rfl⟩, fun v s' hv hj => ends v s' ?_ hj⟩
      · intro b hb
        rw [size_push']
        rcases List.mem_cons.mp hb with z | z
        · rw [z]; exact Nat.lt_succ_self _
        · rw [List.mem_singleton.mp z]; exact Nat.lt_succ_of_lt hll
      · have : its.toArray.size = ls.length := by simp; omega
        rw [this] at hv
        exact hv
    | false =>
      refine call_min_walkKB (wpAny_pyIter_list pl.isList ?_)
      refine ⟨s1.heap.objs.size, _, _, _, its.toArray.size, _, _, StayJ s1, (fun i k _ => ∃ t, k = Value.int (ls.getD i 0 : Int) t), (fun i j => decide ((ls.getD i 0 : Int) < (ls.getD j 0 : Int))), rfl, (Walks.list hh _ l (Nat.ne_of_lt hll) its.toArray).toS, ⟨⟨_, Heap.get?_push_size _ rfl, rfl, rfl⟩, pl.isList.at fun o q => Heap.get?_push_of_some _ q⟩, ?_, by simp; omega,
        key_run (ls := ls) (St := fun i h => h.IsListIter s1.heap.objs.size l i ∧ h.IsList l its.toArray) (Nat.le_refl _) (show s1.heap.objs.size ≤ (s1.heap.push { cls := .type "list_iterator", data := .fields #[.ref l, .int 0 0] }).objs.size by rw [size_push']; exact Nat.le_succ _) (by omega) hz2 fun i j t t' s Q E hq => CmpOf.ints_lt (prog := X.prog) (w := X.w) (A := X.A.in1) (P := fun i v => ∃ t, v = .int (ls.getD i 0 : Int) t) (fun i => (ls.getD i 0 : Int)) (fun i v h => h) i j _ _ _ _ _ ⟨t, rfl⟩ ⟨t', rfl⟩ hq,
        ⟨fun b o e => Heap.get?_push_of_some _ e, rfl, rfl, rfl⟩, fun v s' hv hj => ends v s' ?_ hj⟩
      · intro b hb
        rw [size_push']
        rcases List.mem_cons.mp hb with z | z
        · rw [z]; exact Nat.lt_succ_self _
        · rw [List.mem_singleton.mp z]; exact Nat.lt_succ_of_lt hll
      · have : its.toArray.size = ls.length := by simp; omega
        rw [this] at hv
        exact hv
  have kw : ∀ (s1 : Shared) (H1 : Hp) (R : List Value → Shared → Prop), L2.Inv X pins σ H1 s1 → R [.builtin "len"] s1 → wpAny (model X.prog X.w) X.A (evalAll ((backToKw pos (keywordEach [⟨some (Str.ofString "key"), .Name "len" p2, kpos⟩] X.env)).map (·.2))) R X.xe s1 := fun s1 H1 R I1 hR => by
    show wpAny _ _ (evalAll [(do let v ← eval (.Name "len" p2) X.env; standAt pos; pure v)]) _ _ s1
    exact wpAny_evalAll_cons (wpAny_bind (ld_blt I1 hg2 hm2 (show bootBuiltins "len" = some (.builtin "len") by decide +kernel) (wpAny_bind (wpAny_standAt (wpAny_pure (wpAny_evalAll_nil hR))))))
  refine wpAny_Call_Name_kw ?_
  have cal : wpAny (model X.prog X.w) X.A (callWith pos (.builtin (if mx then "max" else "min")) [] (backTo pos (starEach [e] X.env)) (backToKw pos (keywordEach [⟨some (Str.ofString "key"), .Name "len" p2, kpos⟩] X.env))) (EP X pins σ Q) X.xe s := by
    refine PyProof.Rows.callWith_kw (thn (pa.run pos pins s σ H _ I h) fun us s1 ⟨vs, H1, I1, r1, l, xs, ls, ex, q1⟩ => kw s1 H1 _ I1 ?_) he hpl rfl rfl
    subst ex
    obtain ⟨u, rfl, rx⟩ := vals1 r1
    exact fin u s1 _ H1 I1 rx ⟨l, xs, ls, rfl, q1⟩
  cases mx with
  | true => exact ld_blt I hg hm (show bootBuiltins "max" = some (.builtin "max") by decide +kernel) cal
  | false => exact ld_blt I hg hm (show bootBuiltins "min" = some (.builtin "min") by decide +kernel) cal
  )]
  intro _ hNoI
  simpa using (fun (_ : NoI.Sg) => hNoI) [5]
end
section
variable {X : Cx} {e : Expr} {ta : TA} {p p2 kpos pos : Pos}
theorem pe_maxL (hc : X.calm = true) (hg : Gl X "max") (hm : X.mg "max" = none) (hg2 : Gl X "len") (hm2 : X.mg "len" = none) (pa : PA X [e] ta)
    (he : backTo pos (starEach [e] X.env) = (false, eval e X.env) :: backTo pos (starEach [] X.env) := by rfl) (hpl : (backTo pos (starEach [e] X.env)).any (·.1) = false := by rfl) :
    PE X (.Call (.Name "max" p) [e] [⟨some (Str.ofString "key"), .Name "len" p2, kpos⟩] pos) (tBestL X.K true ta) := pe_bestL true hc hg hm hg2 hm2 pa he hpl
theorem pe_minL (hc : X.calm = true) (hg : Gl X "min") (hm : X.mg "min" = none) (hg2 : Gl X "len") (hm2 : X.mg "len" = none) (pa : PA X [e] ta)
    (he : backTo pos (starEach [e] X.env) = (false, eval e X.env) :: backTo pos (starEach [] X.env) := by rfl) (hpl : (backTo pos (starEach [e] X.env)).any (·.1) = false := by rfl) :
    PE X (.Call (.Name "min" p) [e] [⟨some (Str.ofString "key"), .Name "len" p2, kpos⟩] pos) (tBestL X.K false ta) := pe_bestL false hc hg hm hg2 hm2 pa he hpl
end
def bestD (mx : Bool) (wss : List (List D)) : List D := wss.getD (bestI mx (wss.map List.length)) []
section
variable [WW] {K : PySem.W.Frag} {Zc : Addr → Prop} {s : S} {Φ : SV → S → Prop}
theorem ev_bestL {mx : Bool} {ta : TA} (h : ArD K Zc ta s fun ds s' => ∃ wss : List (List D), ds = [.list (wss.map .tuple)] ∧ wss ≠ [] ∧ Φ (.dat (.tuple (bestD mx wss))) s') : EvS K Zc (tBestL K mx ta) s Φ := by
  refine NoI.keep (fun _ wNoI => ?_) ?_
  simp only [↓ NoI.wrOf wNoI (by
  clear wNoI
  intro ad H σ Q I p
  refine h ad H σ _ I fun vs ad1 H1 svs s1 h1 I1 F1 r1 => ?_
  obtain ⟨ds, hx, wss, rfl, hne, k⟩ := h1
  subst hx
  obtain ⟨v, rfl, r⟩ := vrs1 r1
  obtain ⟨a, ws, rfl, h2, h3⟩ := lst_of (show DV K _ v (.list (wss.map .tuple)) from r)
  have hl := dpAll_len h3
  rw [List.length_map] at hl
  have hp : 0 < wss.length := List.length_pos_iff.mpr hne
  obtain ⟨b1, _⟩ := bestI_spec mx (ls := wss.map List.length) (by rw [List.length_map]; exact hp)
  rw [List.length_map] at b1
  refine ⟨a, ws, wss.map List.length, rfl, SqL.of (Fz_at h2), by rw [List.length_map]; exact hl, by rw [List.length_map]; exact hp, fun i x hx => ?_, fun x hx => ?_⟩
  · obtain ⟨d, hd, rd⟩ := dpAll_get' h3 hx
    rw [List.getElem?_map] at hd
    obtain ⟨w, hw, rfl⟩ := Option.map_eq_some_iff.mp hd
    obtain ⟨b, ys, rfl, h4, h5⟩ := tup_of (show DV K _ x (.tuple w) from rd)
    exact ⟨b, ys, rfl, sqT_same Fz_le h4, by rw [List.getElem?_map, hw, dpAll_len h5]; rfl⟩
  · obtain ⟨d, hd, rd⟩ := dpAll_get' h3 hx
    rw [List.getElem?_map] at hd
    obtain ⟨w, hw, rfl⟩ := Option.map_eq_some_iff.mp hd
    have e : bestD mx wss = w := by
      unfold bestD
      rw [List.getD_eq_getElem?_getD, hw]
      rfl
    rw [e] at k
    exact (p.step F1).val I1 k (sv := .dat _) rd
  )]
  intro _ hNoI
  simpa using (fun (_ : NoI.Sg) => hNoI) [5]
end
end SH

/-! {k: v for t in it if c}, the keys ints or texts -/
namespace SH
open PySem PySem.Spec PyProof.Rows L2
section
variable [WW]
end
section
variable {X : Cx}
end
section
variable [WW] {K : PySem.W.Frag} {Zc : Addr → Prop} {ad : List Addr} {H : Hp} {s : S} {Φ : SV → S → Prop}
end
end SH

/-! == of any datum and one of texts, ints and tuples -/
namespace SH
open PySem PySem.Spec PyProof.Rows L2
section
variable {prog : Program} {w : World} {A : Around} {E : Value → Shared → Prop} {s : Shared}
variable {es : Array DictEntry} {ep : Nat}
end
section
variable {X : Cx} {pins : List (Addr × Obj)} {σ : L2.St} {H : Hp} {s : Shared}
section
variable [WW] {K : PySem.W.Frag} {Zc : Addr → Prop} {s : S} {x y : SV} {Φ : SV → S → Prop}
end
end
end SH

/-! a comprehension within a comprehension's test: the scope around it is the outer comprehension's -/
namespace SH
open PySem PySem.Spec PyProof.Rows L2
theorem look_map {f : Str → NameKind → NameKind} {x : Str} {k : NameKind} : ∀ {names : List (Str × NameKind)}, names.lookup x = some k → (names.map fun p => (p.1, f p.1 p.2)).lookup x = some (f x k)
  | [], h => by simp at h
  | (n, j) :: r, h => by
    rw [List.map_cons]
    cases hx : x == n with
    | false =>
      simp only [List.lookup_cons, hx] at h ⊢
      exact look_map h
    | true =>
      simp only [List.lookup_cons, hx] at h ⊢
      cases h
      rw [eq_of_beq hx]
theorem look_rel {env : Env} {sc : Scope} {x : Str} (h : sc.names.lookup x = some .cell ∨ sc.names.lookup x = some .free) : (relabel sc env).names.lookup x = some .cell ∨ (relabel sc env).names.lookup x = some .free := by
  refine NoI.keep (fun _ wNoI => ?_) ?_
  simp only [↓ NoI.wrOf wNoI (by
  clear wNoI
  have e : (relabel sc env).names = sc.names.map fun p => (p.1, (fun n k => if (k == .free && env.scope.kind == .function && env.kindOf n == some .cell) = true then NameKind.cell else k) p.1 p.2) := by
    unfold relabel
    refine List.map_congr_left fun p _ => ?_
    obtain ⟨n, k⟩ := p
    by_cases c : (k == .free && env.scope.kind == .function && env.kindOf n == some .cell) = true
    · simp only [c, if_true]
    · simp only [c, if_false, Bool.false_eq_true]
  rw [e]
  rcases h with h | h
  · rw [look_map (f := fun n k => if (k == .free && env.scope.kind == .function && env.kindOf n == some .cell) = true then NameKind.cell else k) h]
    exact .inl (by rw [if_neg (by simp)])
  · rw [look_map (f := fun n k => if (k == .free && env.scope.kind == .function && env.kindOf n == some .cell) = true then NameKind.cell else k) h]
    split
    · exact .inl rfl
    · exact .inr rfl
  )]
  intro _ hNoI
  simpa using (fun (_ : NoI.Sg) => hNoI) [5]
theorem blkOk_rel {N : List Str} {sc scope : Scope} {env : Env} {own : List (Str × Nat)} (h : blkC N sc scope own = true) : BlkOk N (relabel sc env) scope own := by
  have b := blkOk_by h
  exact ⟨b.kind, b.uniq, b.ix, fun y hy e => look_rel (b.free y hy e), b.own⟩
end SH

namespace LW
open PySem PySem.Spec PyProof.Rows L2 SH
variable [WW]

/-! ### the law's bag of draws -/
structure Bag where
  a : Int
  c : Int
  k : Nat
  cells : List Int
def Bag.d (b : Bag) : D := .list [.int b.a, .int b.c, .int (b.k : Int), .list (b.cells.map .int)]
/-- T draws may still come -/
structure WB (T : Nat) (b : Bag) : Prop where
  a0 : 0 ≤ b.a
  c0 : 0 ≤ b.c
  c1 : b.c < 2147483647
  k1 : b.k + T ≤ 1000000
  ce : ∀ x ∈ b.cells, 0 ≤ x
  cl : b.cells.length ≤ 63
theorem WB.less {T U : Nat} {b : Bag} (h : WB T b) (u : U ≤ T) : WB U b := ⟨h.a0, h.c0, h.c1, by have := h.k1; omega, h.ce, h.cl⟩

def dS (ws : List Str) : List D := ws.map .str
/-- strings that stand in words: short, of letters -/
def NameOk (x : Str) : Prop := (∀ c ∈ x.cps.toList, 97 ≤ c ∧ c ≤ 122) ∧ x.length ≤ 12
def NamesOk (ws : List Str) : Prop := ∀ x ∈ ws, NameOk x

/-! ### reduced words -/
def push : List Str → Str → List Str
  | [], x => [x]
  | y :: ys, x => if y = x then ys else x :: y :: ys
/-- the stack behind the items, its top first -/
def stk (ws : List Str) : List Str := ws.foldl push []
def redS (ws : List Str) : List Str := (stk ws).reverse

/-! ### contracts -/
def C__law_bag : Ct := fun svs m Ψ => ∃ ns : List Int, svs = [.ro ns] ∧ m = [] ∧ ns.length ≤ 63 ∧ ∀ m' (b : Bag) i, WB 1000000 b → m'[i]? = some (some b.d) → Ψ (.own i) m'
def C__law_take : Ct := fun svs m Ψ => ∃ (b : Bag) (T : Nat) (many : Int), svs = [.own 0, .dat (.int many)] ∧ m = [some b.d] ∧ WB (T + 1) b ∧ 0 < many ∧ many < 2 ^ 40 ∧
  ∀ m' (v : Int) (b' : Bag), 0 ≤ v → v < many → WB T b' → m'[0]? = some (some b'.d) → Ψ (.dat (.int v)) m'
def C__law_some : Ct := fun svs m Ψ => ∃ (b : Bag) (T : Nat) (things : D) (ds : List D), svs = [.own 0, .dat things] ∧ m = [some b.d] ∧ WB (T + 1) b ∧ itemsD things = some ds ∧ ds ≠ [] ∧ ds.length < 1000000 ∧
  ∀ m' (d : D) (b' : Bag), d ∈ ds → WB T b' → m'[0]? = some (some b'.d) → Ψ (.dat d) m'
def C__law_mixed : Ct := fun svs m Ψ => ∃ (b : Bag) (T : Nat) (things : D) (ds : List D), svs = [.own 0, .dat things] ∧ m = [some b.d] ∧ WB (T + ds.length) b ∧ itemsD things = some ds ∧ ds.length < 1000000 ∧
  ∀ m' (es : List D) (b' : Bag), es.Perm ds → WB T b' → m'[0]? = some (some b'.d) → Ψ (.dat (.list es)) m'
/-- data that can be compared and told -/
structure Fine (d : D) : Prop where
  sh : SeqAt.shaped d = true
  fl : (∃ ds, d = .list ds) ∨ ∃ ds, d = .tuple ds
  sw : d.showable = true
  nd : d.hasDict = false
  dp : d.depth ≤ 60
  sz : d.shown.length ≤ sizeLine
def C__law_alike : Ct := fun svs m Ψ => ∃ d : D, svs = [.dat d, .dat d] ∧ m = [] ∧ (Fine d ∨ (∃ i : Int, d = .int i ∧ i.natAbs.log2 < 1920) ∨ (Sh d ∧ d.depth ≤ 40)) ∧ ∀ m', Ψ (.dat (.bool true)) m'
def C__law_names : Ct := fun svs m Ψ => ∃ (b : Bag) (T : Nat) (many : Nat), svs = [.own 0, .dat (.int (many : Int))] ∧ m = [some b.d] ∧ WB (T + 100) b ∧ 1 ≤ many ∧ many ≤ 9 ∧
  ∀ m' (xs : List Str) (b' : Bag), xs.length = many → NamesOk xs → xs.Nodup → WB T b' → m'[0]? = some (some b'.d) → Ψ (.dat (.list (dS xs))) m'
def C_law : Ct := fun svs m Ψ => ∃ ns : List Int, svs = [.ro ns] ∧ m = [] ∧ ns.length ≤ 63 ∧ ∀ m', Ψ (.dat (.bool true)) m'

/-! ### fleets -/
def dI (ns : List Int) : List D := ns.map .int
structure Fleet where
  names : List Str
  places : List Int
  row : List Str
def Fleet.d (F : Fleet) : D := .tuple [.tuple (dS F.names), .tuple (dI F.places), .tuple (dS F.row)]
structure FOk (F : Fleet) : Prop where
  n1 : 1 ≤ F.names.length
  n9 : F.names.length ≤ 9
  ok : NamesOk F.names
  nd : F.names.Nodup
  so : sortedS F.names = true
  pl : F.places.length = F.names.length
  pd : F.places.Nodup
  pr : ∀ p ∈ F.places, 0 ≤ p ∧ p ≤ F.names.length
  rw : ∀ x ∈ F.row, x ∈ F.names
  rl : F.row.length ≤ 60
/-- places in the row, ascending -/
structure PlanOk (F : Fleet) (p : List Int) : Prop where
  r : ∀ j ∈ p, 0 ≤ j ∧ j < F.row.length
  a : p.Pairwise (· < ·)
def C__law_reduced : Ct := fun svs m Ψ => ∃ (ws : List Str) (d : D), svs = [.dat d] ∧ seqD d = some (dS ws) ∧ m = [] ∧ NamesOk ws ∧ ws.length ≤ 1000000 ∧ ∀ m', Ψ (.dat (.tuple (dS (redS ws)))) m'
/-! ### any data -/
def isS (names : List Str) : D → Bool
  | .str x => decide (x ∈ names)
  | _ => false
end LW

namespace LW
open PySem PySem.Spec PyProof.Rows L2 SH
variable [WW]
def t__law_bag (K : PySem.W.Frag) : TS :=
  (tRet (tLst (tCons (tC (.int 0)) (tCons (tC (.int 1234567891)) (tCons (tC (.int 0)) (tCons (tLc (iSeq K (tSl (rSlU K) (tVar 0) tNoPart (tPart (tC (.int 63))))) (gName 1) tYes (tCB (rAbs) (tCons (tVar 1) tNil)) [1]) tNil))))))
def t__law_take (K : PySem.W.Frag) : TS :=
  (tSeq (tIfS (tTest (tOp (rEqU K) (tOp (rIxU K) (tVar 0) (tC (.int 0))) (tC (.int 0))))
    (tSeq (tAsg (tOp (rIxU K) (tOp (rAddU K) (tSl (rSlU K) (tOp (rIxU K) (tVar 0) (tC (.int 3))) (tPart (tOp (rIxU K) (tVar 0) (tC (.int 2)))) tNoPart) (tLst (tCons (tC (.int 0)) tNil))) (tC (.int 0))) (gName 2))
  (tSeq (tAugS (tVar 0) (tC (.int 2)) (tC (.int 1)) (rIxL K) (ipI fun i j => i + j) rSetL)
  (tSeq (tIfS (tTest (tOp (rI0 fun i j => .bl (decide (j ≤ i))) (tVar 2) (tOp (rI CPow fun i j => .int (i ^ j.toNat)) (tC (.int 10)) (tC (.int 18)))))
    (tAsg (tVar 2) (gSub (tVar 0) (tC (.int 0)) rSetL))
    tNext)
  (tSeq (tAsg (tOp (rAddU K) (tOp (rAddU K) (tOp (rMulX K) (tOp (rIxU K) (tVar 0) (tC (.int 1))) (tC (.int 48271))) (tOp (rI (fun _ j => j ≠ 0) fun i j => .int (i.fmod j)) (tCB (rInt1) (tCons (tVar 2) tNil)) (tC (.int 2147483647)))) (tOp (rMulX K) (tC (.int 7919)) (tOp (rIxU K) (tVar 0) (tC (.int 2))))) (gName 3))
  (tAsg (tOp (rI (fun _ j => j ≠ 0) fun i j => .int (i.fmod j)) (tCB (rInt1) (tCons (tVar 3) tNil)) (tC (.int 2147483647))) (gSub (tVar 0) (tC (.int 1)) rSetL))))))
    tNext)
  (tSeq (tIfS (tTest (tOp (rI0 fun i j => .bl (decide (j < i))) (tOp (rIxU K) (tVar 0) (tC (.int 0))) (tC (.int 0))))
    (tSeq (tAsg (tOp (rI (fun _ j => j ≠ 0) fun i j => .int (i.fmod j)) (tCB (rInt1) (tCons (tOp (rIxU K) (tVar 0) (tC (.int 0))) tNil)) (tVar 1)) (gName 4))
  (tSeq (tAsg (tOp (rI CDivW fun i j => .int (i / j)) (tCB (rInt1) (tCons (tOp (rIxU K) (tVar 0) (tC (.int 0))) tNil)) (tVar 1)) (gSub (tVar 0) (tC (.int 0)) rSetL))
  (tRet (tVar 4))))
    tNext)
  (tSeq (tAsg (tOp (rI (fun _ j => j ≠ 0) fun i j => .int (i.fmod j)) (tCB (rInt1) (tCons (tOp (rMulX K) (tOp (rAddU K) (tOp (rIxU K) (tVar 0) (tC (.int 1))) (tC (.int 1))) (tC (.int 39373))) tNil)) (tC (.int 1000000007))) (gName 5))
  (tSeq (tAsg (tOp (rI (fun _ j => j ≠ 0) fun i j => .int (i.fmod j)) (tCB (rInt1) (tCons (tOp (rMulX K) (tOp (rI (fun _ j => j ≠ 0) fun i j => .int (i.fmod j)) (tCB (rInt1) (tCons (tOp (rMulX K) (tVar 5) (tVar 5)) tNil)) (tC (.int 998244353))) (tC (.int 30011))) tNil)) (tC (.int 998244353))) (gName 6))
  (tRet (tOp (rI (fun _ j => j ≠ 0) fun i j => .int (i.fmod j)) (tCB (rInt1) (tCons (tOp (rI CDivW fun i j => .int (i / j)) (tVar 6) (tC (.int 7))) tNil)) (tVar 1)))))))
def t__law_some (K : PySem.W.Frag) : TS :=
  (tRet (tOp (rIxU K) (tVar 1) (tCall (spP K C__law_take) [] E0 (tCons (tVar 0) (tCons (tCB (rLenU K) (tCons (tVar 1) tNil)) tNil)))))
def t__law_mixed (K : PySem.W.Frag) : TS :=
  (tSeq (tAsg (tLst tNil) (gName 2))
  (tSeq (tFor (iSeq K (tVar 1)) (gName 3)
    (tDrop (tBM K "list" rInsert (tVar 2) (tCons (tCall (spP K C__law_take) [] E0 (tCons (tVar 0) (tCons (tOp (rAddU K) (tCB (rLenU K) (tCons (tVar 2) tNil)) (tC (.int 1))) tNil))) (tCons (tVar 3) tNil)))))
  (tRet (tVar 2))))
def t__law_alike (K : PySem.W.Frag) : TS :=
  (tRet (tAndV (tOp (rEqU K) (tVar 0) (tVar 1)) (tOp (rEqU K) (tCB (rReprW K) (tCons (tVar 0) tNil)) (tCB (rReprW K) (tCons (tVar 1) tNil)))))
def t__law_names (K : PySem.W.Frag) : TS :=
  (tSeq (tAsg (tTupF (tCons (tC (.str "abcdefghijklmnopqrstuvwxyz")) (tCons (tCall (spP K C__law_take) [] E0 (tCons (tVar 0) (tCons (tC (.int 5)) tNil))) (tCons (tCall (spP K C__law_take) [] E0 (tCons (tVar 0) (tCons (tC (.int 26)) tNil))) tNil)))) (gTup K 3 (gCons (gName 2) (gCons (gName 3) (gCons (gName 4) gNil)))))
  (tSeq (tIfS (tTest (tOp (rEqU K) (tVar 3) (tC (.int 0))))
    (tAsg (tLc (iRng1 (tCons (tVar 1) tNil)) (gName 7) tYes (tOp (rIxU K) (tVar 2) (tOp (rI (fun _ j => j ≠ 0) fun i j => .int (i.fmod j)) (tCB (rInt1) (tCons (tOp (rAddU K) (tVar 4) (tVar 7)) tNil)) (tC (.int 26)))) [7]) (gName 5))
    (tIfS (tTest (tOp (rEqU K) (tVar 3) (tC (.int 1))))
    (tAsg (tLc (iRng1 (tCons (tVar 1) tNil)) (gName 7) tYes (tOp (rMulX K) (tOp (rIxU K) (tVar 2) (tVar 4)) (tOp (rAddU K) (tVar 7) (tC (.int 1)))) [7]) (gName 5))
    (tIfS (tTest (tOp (rEqU K) (tVar 3) (tC (.int 2))))
    (tSeq (tAsg (tM1 (rJoin K) (tC (.str "")) (tLc (iRng1 (tCons (tCall (spP K C__law_take) [] E0 (tCons (tVar 0) (tCons (tC (.int 12)) tNil))) tNil)) (gName 8) tYes (tCall (spP K C__law_some) [] E0 (tCons (tVar 0) (tCons (tVar 2) tNil))) [8])) (gName 6))
  (tAsg (tLc (iRng1 (tCons (tVar 1) tNil)) (gName 7) tYes (tOp (rAddU K) (tVar 6) (tOp (rIxU K) (tVar 2) (tOp (rI (fun _ j => j ≠ 0) fun i j => .int (i.fmod j)) (tCB (rInt1) (tCons (tOp (rAddU K) (tVar 4) (tVar 7)) tNil)) (tC (.int 26))))) [7]) (gName 5)))
    (tIfS (tTest (tOp (rEqU K) (tVar 3) (tC (.int 3))))
    (tAsg (tSl (rSlU K) (tCall (spP K C__law_mixed) [] E0 (tCons (tVar 0) (tCons (tLst (tCons (tC (.str "service")) (tCons (tC (.str "restarts")) (tCons (tC (.str "hop")) (tCons (tC (.str "pin")) (tCons (tC (.str "edit")) (tCons (tC (.str "from")) (tCons (tC (.str "to")) (tCons (tC (.str "stuck")) (tCons (tC (.str "spare")) tNil)))))))))) tNil))) tNoPart (tPart (tVar 1))) (gName 5))
    (tAsg (tLc (iRng1 (tCons (tVar 1) tNil)) (gName 7) tYes (tOp (rAddU K) (tOp (rIxU K) (tVar 2) (tOp (rI (fun _ j => j ≠ 0) fun i j => .int (i.fmod j)) (tCB (rInt1) (tCons (tOp (rAddU K) (tVar 4) (tVar 7)) tNil)) (tC (.int 26)))) (tCall (spP K C__law_some) [] E0 (tCons (tVar 0) (tCons (tLst (tCons (tC (.str "")) (tCons (tC (.str "z")) (tCons (tC (.str "mail")) (tCons (tSl (rSlU K) (tVar 2) tNoPart (tPart (tC (.int 11)))) tNil))))) tNil)))) [7]) (gName 5))))))
  (tRet (tCall (spP K C__law_mixed) [] E0 (tCons (tVar 0) (tCons (tVar 5) tNil))))))
def t__law_reduced (K : PySem.W.Frag) : TS :=
  (tSeq (tAsg (tLst tNil) (gName 1))
  (tSeq (tFor (iSeq K (tVar 0)) (gName 2)
    (tIfS (tAnd (tTest (tOp (rNeU K) (tVar 1) (tLst tNil))) (tTest (tOp (rEqU K) (tOp (rIxU K) (tVar 1) (tUn (rU fun i => .int (-i)) (tC (.int 1)))) (tVar 2))))
    (tDrop (tBM0 K "list" rPop (tVar 1)))
    (tDrop (tBM K "list" rAppend (tVar 1) (tCons (tVar 2) tNil)))))
  (tRet (tCB (rTupU K) (tCons (tVar 1) tNil)))))
end LW

section

local macro_rules | `(tactic| walk_at "ev1") => `(tactic| first
  | (with_reducible refine SH.ex_seq ?_)
  | (with_reducible refine SH.ex_if ?_)
  | (with_reducible refine SH.ex_ret ?_)
  | (with_reducible refine SH.ex_drop ?_)
  | (with_reducible refine SH.ex_augS ?_)
  | (with_reducible refine SH.ex_put ?_)
  | ((with_reducible show SH.ExS _ _ _ (L2.tAsg _ (L2.gTup _ _ (L2.gCons (L2.gSub _ _ SH.rSetU) _))) _ _); refine SH.ex_asgT ?_)
  | ((with_reducible show SH.ExS _ _ _ (L2.tAsg _ (L2.gSub _ _ SH.rSetU)) _ _); refine SH.ex_asgT ?_)
  | (with_reducible refine SH.ex_asg ?_)
  | (with_reducible refine SH.ex_next ?_)
  | (with_reducible refine SH.ex_par ?_)
  | (with_reducible refine SH.ex_par3 ?_)
  | (with_reducible refine SH.ex_break ?_)
  | (with_reducible refine SH.ex_cont ?_)
  | (with_reducible refine SH.g_name ?_)
  | (with_reducible refine SH.gt_name ?_)
  | (with_reducible refine SH.gt_cons ?_)
  | (with_reducible refine SH.gt_nil ?_)
  | ((with_reducible refine SH.gt_tup (ds := ?shS) ?shA ?shB ?shD ?shC); (case shA => exact rfl); (case shB => exact rfl); (case shD => exact rfl))
  | (with_reducible refine SH.g_cons ?_)
  | (with_reducible refine SH.g_nil ?_)
  | ((with_reducible refine SH.g_tup (ds := ?shS) ?shA ?shB ?shD ?shC); (case shA => exact rfl); (case shB => exact rfl); (case shD => exact rfl))
  | (with_reducible refine SH.tt_test ?_)
  | (with_reducible refine SH.tt_tru ?_)
  | (with_reducible refine SH.tt_and ?_)
  | (with_reducible refine SH.tt_or ?_)
  | (with_reducible refine SH.tt_not ?_)
  | (with_reducible refine SH.tt_yes ?_)
  | (with_reducible refine SH.ev_int ?_)
  | (with_reducible refine SH.ev_str ?_)
  | (with_reducible refine SH.ev_bl ?_)
  | (with_reducible refine SH.ev_non ?_)
  | (with_reducible refine SH.ev_op ?_)
  | (with_reducible refine SH.ev_un ?_)
  | (with_reducible refine SH.ev_if ?_)
  | (with_reducible refine SH.ev_sl ?_)
  | (with_reducible refine SH.ev_cb ?_)
  | (with_reducible refine SH.ev_bmL ?_)
  | (with_reducible refine SH.ev_bmL0 ?_)
  | (with_reducible refine SH.ev_tupD ?_)
  | (with_reducible refine SH.ev_lstD ?_)
  | (with_reducible refine SH.ev_andV ?_)
  | (with_reducible refine SH.ev_join ?_)
  | (with_reducible refine SH.asD_dat ?_)
  | (with_reducible refine SH.ad_nil ?_)
  | (with_reducible refine SH.ad_cons ?_)
  | (with_reducible refine SH.ar_nil ?_)
  | (with_reducible refine SH.ar_cons ?_)
  | (with_reducible refine SH.pt_none ?_)
  | (with_reducible refine SH.pt_part ?_)
  | (with_reducible refine SH.it_range1 ?_)
  | (with_reducible refine SH.it_range2 ?_)
  | (with_reducible refine SH.it_seq ?_)
  | ((with_reducible refine SH.ev_var (sv := ?shS) ?shA ?shB ?shC); (case shA => exact rfl); (case shB => (intro z; cases z)))
  | ((with_reducible refine SH.ev_callBD (j := ?shS) ?shA ?shC); (case shA => exact rfl))
  | (with_reducible refine SH.ev_callD ?_)
  | ((with_reducible show ∃ shE1, SH.SV.dat (PySem.PyData.bool _) = SH.SV.dat (PySem.PyData.bool shE1) ∧ _); refine ⟨_, rfl, ?_⟩)
  | ((with_reducible show ∃ shE1, SH.SV.dat (PySem.PyData.int _) = SH.SV.dat (PySem.PyData.int shE1) ∧ _); refine ⟨_, rfl, ?_⟩)
  | ((with_reducible refine And.intro (a := _ ≤ PySem.sizeLine) ?shA ?shC); (case shA => (first | decide | (rw [PySem.sizeLine_eq]; simp only [List.length_cons, List.length_nil, List.length_append, List.length_map]; omega))))
  | ((with_reducible refine SH.asD_own (ds := ?shS) ?shA ?shC); (case shA => exact rfl))
  | ((with_reducible show SH.OpS _ _ (SH.rIxU _) _ _ _ _); first | refine SH.os_uL rfl rfl rfl ?_ | refine SH.os_uT rfl rfl rfl ?_)
  | ((with_reducible show SH.OpS _ _ (SH.rAddU _) _ _ _ _); first | refine SH.os_addI rfl rfl ?_ | (refine SH.os_addS rfl rfl ?_ ?_; rotate_left 1) | (refine SH.os_addL rfl rfl ?_ ?_; rotate_left 1) | (refine SH.os_addT rfl rfl ?_ ?_; rotate_left 1))
  | ((with_reducible show SH.OpS _ _ (SH.rMulX _) _ _ _ _); first | (refine SH.os_mxI rfl rfl ?_ ?_; rotate_left 1) | (refine SH.os_mxS rfl rfl ?_ ?_; rotate_left 1))
  | ((with_reducible show SH.OpS _ _ (SH.rEqU _) _ _ _ _); first | refine SH.os_eqI rfl rfl ?_ | refine SH.os_eqS rfl rfl ?_)
  | ((with_reducible show SH.OpS _ _ (SH.rNeU _) _ _ _ _); first | refine SH.os_neI rfl rfl ?_ | refine SH.os_neS rfl rfl ?_)
  | ((with_reducible show SH.OpS _ _ _ _ _ _ _); first | refine SH.os_lt rfl rfl ?_ | refine SH.os_le rfl rfl ?_ | refine SH.os_gt rfl rfl ?_ | refine SH.os_ge rfl rfl ?_ | refine SH.os_sub rfl rfl ?_ | (refine SH.os_mod rfl rfl (by decide) ?_) | (refine SH.os_mod rfl rfl ?_ ?_; rotate_left 1) | (refine SH.os_div rfl rfl (by decide) (by decide) ?_) | (refine SH.os_div rfl rfl ?_ ?_ ?_; rotate_left 2) | (refine SH.os_pow rfl rfl ?_ ?_; rotate_left 1))
  | ((with_reducible show SH.UnS _ _ _ _ _ _); first | refine SH.un_neg' rfl ?_)
  | ((with_reducible show SH.SlS _ _ _ _ _ _ _ _); first | refine SH.sl_L rfl ?_ | refine SH.sl_T rfl ?_ | (refine SH.sl_S rfl ?_ ?_; rotate_left 1) | refine SH.sl_ro rfl ?_)
  | ((with_reducible show SH.CbS _ _ _ _ _ _); first | refine SH.cb_lenL rfl ?_ | refine SH.cb_lenT rfl ?_ | (refine SH.cb_lenS rfl ?_ ?_; rotate_left 1) | refine SH.cb_abs rfl ?_ | refine SH.cb_int rfl ?_ | refine SH.cb_listWL rfl ?_ | refine SH.cb_listWT rfl ?_ | refine SH.cb_tupL rfl ?_ | refine SH.cb_tupT rfl ?_ | refine SH.cb_rng1 rfl ?_ | refine SH.cb_rng2 rfl rfl ?_))
local macro_rules | `(tactic| walk_at "ev") => `(tactic| repeat walk_at "ev1")
local macro_rules | `(tactic| walk_at "wk") => `(tactic| (repeat' first | exact trivial | exact Or.inl rfl | (refine And.intro ?_ ?_) | exact Or.inr rfl | (refine Or.inr ⟨rfl, ?_⟩; intro j e; first | (cases e; done) | (cases e; show _ < _; first | decide | simp))))
local macro_rules | `(tactic| walk_at "nrm") => `(tactic| dsimp only [SH.S.fz, SH.SV.fz, List.map, List.set, SH.wipeS, List.cons_append, List.nil_append, List.length_cons, List.length_nil, Nat.beq, List.replicate])
local macro_rules | `(tactic| walk_at "go") => `(tactic| (walk_at "ev"; (try walk_at "nrm"); walk_at "ev"; (try walk_at "nrm"); walk_at "ev"; (try walk_at "nrm")))

namespace LW
open PySem PySem.Spec PyProof.Rows L2 SH
variable [WW]

theorem small {n : Nat} (h : n ≤ 16777216) : n ≤ sizeLine := by rw [sizeLine_eq]; exact h
theorem eqv_str {x y : Str} : PyData.eqv (.str x) (.str y) = decide (x = y) := by
  rw [PyData.eqv]
  by_cases e : x = y
  · subst e; simp
  · simp [e]
theorem push_names {ws : List Str} {x : Str} (h : NamesOk ws) (hx : NameOk x) : NamesOk (push ws x) := by
  refine NoI.keep (fun _ wNoI => ?_) ?_
  simp only [↓ NoI.wrOf wNoI (by
  clear wNoI
  intro y hy
  cases ws with
  | nil => simp [push] at hy; subst hy; exact hx
  | cons z zs =>
    simp only [push] at hy
    split at hy
    · exact h y (List.mem_cons_of_mem _ hy)
    · rcases List.mem_cons.mp hy with rfl | hy
      · exact hx
      · exact h y hy
  )]
  intro _ hNoI
  simpa using (fun (_ : NoI.Sg) => hNoI) [5]
theorem foldl_names : ∀ {ws st : List Str}, NamesOk ws → NamesOk st → NamesOk (ws.foldl push st)
  | [], _, _, h => h
  | w :: ws, st, h, h2 => foldl_names (ws := ws) (fun x hx => h x (List.mem_cons_of_mem _ hx)) (push_names h2 (h w List.mem_cons_self))
theorem stk_names {ws : List Str} (h : NamesOk ws) : NamesOk (stk ws) := foldl_names h fun x hx => by simp at hx
theorem push_len (ws : List Str) (x : Str) : (push ws x).length ≤ ws.length + 1 := by
  cases ws with
  | nil => simp [push]
  | cons z zs =>
    simp only [push]
    split <;> simp <;> omega
theorem foldl_len : ∀ (ws st : List Str), (ws.foldl push st).length ≤ st.length + ws.length
  | [], st => by simp
  | w :: ws, st => by
    have := foldl_len ws (push st w)
    have := push_len st w
    simp only [List.foldl_cons, List.length_cons]
    omega
theorem stk_len (ws : List Str) : (stk ws).length ≤ ws.length := by
  have := foldl_len ws []
  simpa [stk] using this
theorem stk_take {ws : List Str} {i : Nat} {x : Str} (h : ws[i]? = some x) : stk (ws.take (i + 1)) = push (stk (ws.take i)) x := by
  unfold stk
  rw [List.take_add_one, h]
  simp
theorem take_names {ws : List Str} (h : NamesOk ws) (i : Nat) : NamesOk (ws.take i) := fun x hx => h x (List.mem_of_mem_take hx)
theorem dS_at {ws : List Str} {i : Nat} {d : D} (hd : (dS ws)[i]? = some d) : ∃ x, ws[i]? = some x ∧ d = .str x := by
  simp only [dS, List.getElem?_map, Option.map_eq_some_iff] at hd
  obtain ⟨x, e1, e2⟩ := hd
  exact ⟨x, e1, e2.symm⟩
theorem mul62 {i j : Int} (h : -4611686018427387904 < i ∧ i < 4611686018427387904 ∧ -4611686018427387904 < j ∧ j < 4611686018427387904) : CMulW i j :=
  wide_mul (a := 62) (b := 62) (by omega) (by omega) (by decide) (by decide) (by decide)
theorem cells_head {cells : List Int} {k : Nat} (h : ∀ x ∈ cells, 0 ≤ x) : ∃ x : Int, 0 ≤ x ∧ atI (SH.cutD (cells.map PyData.int) (some (k : Int)) none ++ [PyData.int 0]) 0 = some (.int x) := by
  refine NoI.keep (fun _ wNoI => ?_) ?_
  simp only [↓ NoI.wrOf wNoI (by
  clear wNoI
  have e : SH.cutD (cells.map PyData.int) (some (k : Int)) none = (cells.drop (min k cells.length)).map PyData.int := by
    unfold SH.cutD
    rw [HT.sIx_nat, HT.sIx_none, List.length_map, List.map_drop, List.take_of_length_le (by simp)]
  rw [e]
  cases q : cells.drop (min k cells.length) with
  | nil => exact ⟨0, Int.le_refl _, rfl⟩
  | cons x r => exact ⟨x, h x (List.mem_of_mem_drop (by rw [q]; exact List.mem_cons_self)), atI_nat (j := 0) rfl⟩
  )]
  intro _ hNoI
  simpa using (fun (_ : NoI.Sg) => hNoI) [5]
theorem wp__law_take {K : PySem.W.Frag} : ∀ Zc svs m Ψ, C__law_take svs m Ψ → ExS K Zc m.length (t__law_take K) ⟨svs ++ List.replicate (7 - svs.length) .un, m⟩ (retE Ψ) := by
  refine NoI.keep (fun _ wNoI => ?_) ?_
  simp only [↓ NoI.wrOf wNoI (by
  clear wNoI
  rintro Zc _ _ Ψ ⟨b, T, many, rfl, rfl, hw, m0, m1, k⟩
  unfold t__law_take
  refine ex_cut (fun s => ∃ b' : Bag, WB T b' ∧ s = ⟨[.own 0, .dat (.int many), .un, .un, .un, .un, .un], [some b'.d]⟩) ?_ ?_
  · obtain ⟨a, c, j, cells⟩ := b
    obtain ⟨a0, c0, c1, k1, ce, cl⟩ := hw
    dsimp only at a0 c0 c1 k1 ce cl
    dsimp only [Bag.d]
    walk_at "ev"
    refine ⟨fun h => ?_, fun h => ?_⟩
    · walk_at "ev"
      obtain ⟨x, x0, hx⟩ := cells_head (k := j) ce
      refine os_uL rfl rfl hx ?_
      walk_at "ev"
      refine ⟨0, _, 2, j, rfl, rfl, rfl, rfl, ?_⟩
      walk_at "ev"
      refine ⟨1, 2, _, rfl, rfl, rfl, ?_⟩
      walk_at "nrm"
      refine ex_cut (fun s => ∃ a' : Int, 0 ≤ a' ∧ s = ⟨[.own 0, .dat (.int many), .dat (.int x), .un, .un, .un, .un], [some (.list [.int a', .int c, .int ((j : Int) + 1), .list (cells.map .int)])]⟩) ?_ ?_
      · walk_at "ev"
        refine ⟨fun h => ?_, fun h => ?_⟩
        · walk_at "ev"
          refine ⟨0, _, 0, 0, rfl, rfl, rfl, rfl, ?_⟩
          walk_at "nrm"
          exact To.of _ ⟨x, x0, rfl⟩ (by walk_at "wk") (by walk_at "wk") (by simp)
        · walk_at "ev"
          walk_at "nrm"
          exact To.of _ ⟨a, a0, rfl⟩ (by walk_at "wk") (by walk_at "wk") (by simp)
        · exact ⟨by decide, by decide, by decide⟩
      · rintro _ ⟨a', ha, rfl⟩ _
        walk_at "ev"
        refine ⟨0, _, 1, 1, rfl, rfl, rfl, rfl, ?_⟩
        walk_at "nrm"
        refine To.of _ ⟨⟨a', (c * 48271 + x % 2147483647 + 7919 * ((j : Int) + 1)) % 2147483647, j + 1, cells⟩, ⟨ha, by dsimp only; omega, by dsimp only; omega, by dsimp only; omega, ce, cl⟩, rfl⟩ (by walk_at "wk") (by walk_at "wk") (by simp)
        all_goals first | decide | exact mul62 (by omega)
      · have : (SH.cutD (cells.map PyData.int) (some (j : Int)) none).length ≤ cells.length := by
          unfold SH.cutD
          simp only [List.length_take, List.length_drop, List.length_map]
          omega
        exact small (by simp only [List.length_cons, List.length_nil]; omega)
    · walk_at "ev"
      walk_at "nrm"
      exact To.of _ ⟨⟨a, c, j, cells⟩, ⟨a0, c0, c1, by dsimp only; omega, ce, cl⟩, rfl⟩ (by walk_at "wk") (by walk_at "wk") (by simp)
  · rintro _ ⟨⟨a, c, j, cells⟩, hw, rfl⟩ hn
    obtain ⟨a0, c0, c1, k1, ce, cl⟩ := hw
    dsimp only at a0 c0 c1 k1 ce cl
    dsimp only [Bag.d]
    refine ex_cut (fun s => s = ⟨[.own 0, .dat (.int many), .un, .un, .un, .un, .un], [some (.list [.int a, .int c, .int (j : Int), .list (cells.map .int)])]⟩) ?_ ?_
    · walk_at "ev"
      refine ⟨fun h => ?_, fun h => ?_⟩
      · walk_at "ev"
        refine ⟨0, _, 0, 0, rfl, rfl, rfl, rfl, ?_⟩
        walk_at "ev"
        refine k _ (a % many) ⟨a / many, c, j, cells⟩ (Int.emod_nonneg _ (by omega)) (Int.emod_lt_of_pos _ m0) ⟨Int.ediv_nonneg a0 (by omega), c0, c1, k1, ce, cl⟩ rfl
        all_goals first | omega | exact mul62 (by omega)
      · walk_at "ev"
        exact To.of _ rfl (by walk_at "wk") (by walk_at "wk") (by simp)
    · rintro _ rfl _
      walk_at "ev"
      refine k _ _ ⟨a, c, j, cells⟩ (Int.emod_nonneg _ (by omega)) (Int.emod_lt_of_pos _ m0) ⟨a0, c0, c1, k1, ce, cl⟩ rfl
      all_goals first | omega | exact mul62 (by omega)
  )]
  intro _ hNoI
  simpa using (fun (_ : NoI.Sg) => hNoI) [5]
end LW

namespace LW
open PySem PySem.Spec PyProof.Rows L2 SH
variable [WW]

theorem wp__law_bag {K : PySem.W.Frag} : ∀ Zc svs m Ψ, C__law_bag svs m Ψ → ExS K Zc m.length (t__law_bag K) ⟨svs ++ List.replicate (2 - svs.length) .un, m⟩ (retE Ψ) := by
  refine NoI.keep (fun _ wNoI => ?_) ?_
  simp only [↓ NoI.wrOf wNoI (by
  clear wNoI
  rintro Zc _ _ Ψ ⟨ns, rfl, rfl, h1, k⟩
  unfold t__law_bag
  walk_at "ev"
  refine ev_lc gw_name (it_seq ?_)
  walk_at "ev"
  have e : SH.cutD (ns.map PyData.int) none (some 63) = ns.map PyData.int := by
    unfold SH.cutD
    rw [show (63 : Int) = ((63 : Nat) : Int) from rfl, HT.sIx_nat, HT.sIx_none, List.drop_zero, List.take_of_length_le (by simp; omega)]
  rw [e]
  walk_at "nrm"
  refine ⟨_, rfl, fun i s => s = ⟨[.ro ns, .un], [none, some (.list ((ns.take i).map fun x => .int (if x < 0 then -x else x)))]⟩, rfl, ?_, ?_⟩
  · rintro i d _ hd rfl hl
    obtain ⟨x, hx, rfl⟩ : ∃ x, ns[i]? = some x ∧ d = .int x := by
      simp only [List.getElem?_map, Option.map_eq_some_iff] at hd
      obtain ⟨x, e1, e2⟩ := hd
      exact ⟨x, e1, e2.symm⟩
    walk_at "ev"
    refine ⟨fun _ => ?_, fun h => by cases h⟩
    walk_at "ev"
    refine ⟨_, rfl, small (by simp; omega), ?_⟩
    walk_at "nrm"
    refine To.of _ rfl (by walk_at "wk") ?_ (by simp)
    simp [WkMs, List.take_add_one, hx]
  · rintro _ rfl
    walk_at "ev"
    refine k _ ⟨0, 1234567891, 0, ns.map fun x => if x < 0 then -x else x⟩ _ ⟨Int.le_refl _, (by decide : (0 : Int) ≤ 1234567891), (by decide : (1234567891 : Int) < 2147483647), Nat.le_of_eq (Nat.zero_add _), ?_, by simpa using h1⟩ ?_
    · intro x hx
      obtain ⟨y, _, rfl⟩ := List.mem_map.mp hx
      split <;> omega
    · simp [Bag.d]
  )]
  intro _ hNoI
  simpa using (fun (_ : NoI.Sg) => hNoI) [5]
section
variable {K : PySem.W.Frag} {Zc : Addr → Prop} {s : S} {x y : SV} {Φ : SV → S → Prop}
theorem cb_lenI {d : D} {ds : List D} (h1 : rd s.mem x = some d) (hi : itemsD d = some ds) (hz : ds.length ≤ sizeLine) (k : Φ (.dat (.int ds.length)) s) : CbS K Zc (rLenU K) [x] s Φ := by
  refine NoI.keep (fun _ wNoI => ?_) ?_
  simp only [↓ NoI.wrOf wNoI (by
  clear wNoI
  cases d with
  | list es => cases hi; exact cb_lenL h1 k
  | tuple es => cases hi; exact cb_lenT h1 k
  | str z =>
    cases hi
    have e : (strD z).length = z.length := by simp [strD]; rfl
    rw [e] at hz k
    exact cb_lenS h1 hz k
  | none => cases hi
  | bool _ => cases hi
  | int _ => cases hi
  | dict _ => cases hi
  )]
  intro _ hNoI
  simpa using (fun (_ : NoI.Sg) => hNoI) [5]
theorem os_ixI {d e : D} {ds : List D} {i : Int} (h1 : rd s.mem x = some d) (h2 : rd s.mem y = some (.int i)) (hi : itemsD d = some ds) (hz : ds.length ≤ sizeLine) (he : atI ds i = some e) (k : Φ (.dat e) s) : OpS K Zc (rIxU K) x y s Φ := by
  refine NoI.keep (fun _ wNoI => ?_) ?_
  simp only [↓ NoI.wrOf wNoI (by
  clear wNoI
  cases d with
  | list es => cases hi; exact os_uL h1 h2 he k
  | tuple es => cases hi; exact os_uT h1 h2 he k
  | str z =>
    cases hi
    have el : (strD z).length = z.length := by simp [strD]; rfl
    rw [el] at hz
    unfold atI at he
    cases q : ixN (strD z).length i with
    | none => rw [q] at he; cases he
    | some j =>
      rw [q] at he
      simp only [Option.bind_some, strD, List.getElem?_map, Option.map_eq_some_iff] at he
      obtain ⟨c, hc, rfl⟩ := he
      refine os_uS h1 h2 hz (c := c) ?_ k
      unfold atI
      rw [show z.cps.toList.length = (strD z).length by simp [strD], q]
      exact hc
  | none => cases hi
  | bool _ => cases hi
  | int _ => cases hi
  | dict _ => cases hi
  )]
  intro _ hNoI
  simpa using (fun (_ : NoI.Sg) => hNoI) [5]
end
theorem atI_lt {ds : List D} {v : Int} (h0 : 0 ≤ v) (h1 : v < ds.length) : ∃ d, atI ds v = some d ∧ d ∈ ds := by
  refine NoI.keep (fun _ wNoI => ?_) ?_
  simp only [↓ NoI.wrOf wNoI (by
  clear wNoI
  obtain ⟨j, rfl⟩ := Int.eq_ofNat_of_zero_le h0
  have hj : j < ds.length := by omega
  exact ⟨ds[j], atI_nat (List.getElem?_eq_getElem hj), List.getElem_mem hj⟩
  )]
  intro _ hNoI
  simpa using (fun (_ : NoI.Sg) => hNoI) [5]
theorem wp__law_some {K : PySem.W.Frag} : ∀ Zc svs m Ψ, C__law_some svs m Ψ → ExS K Zc m.length (t__law_some K) ⟨svs ++ List.replicate (2 - svs.length) .un, m⟩ (retE Ψ) := by
  refine NoI.keep (fun _ wNoI => ?_) ?_
  simp only [↓ NoI.wrOf wNoI (by
  clear wNoI
  rintro Zc _ _ Ψ ⟨b, T, things, ds, rfl, rfl, hw, hi, hne, hl, k⟩
  unfold t__law_some
  have h0 : 0 < ds.length := List.length_pos_iff.mpr hne
  walk_at "ev"
  refine cb_lenI rfl hi (small (by omega)) ?_
  walk_at "ev"
  refine ⟨_, rfl, b, T, ds.length, rfl, rfl, hw, by omega, by omega, fun m' v b' v0 v1 hw' hm => ⟨_, _, rfl, hm, ?_⟩⟩
  obtain ⟨d, hd, hm'⟩ := atI_lt v0 v1
  refine os_ixI rfl rfl hi (small (by omega)) hd ?_
  exact k _ d b' hm' hw' rfl
  )]
  intro _ hNoI
  simpa using (fun (_ : NoI.Sg) => hNoI) [5]
theorem wp__law_mixed {K : PySem.W.Frag} : ∀ Zc svs m Ψ, C__law_mixed svs m Ψ → ExS K Zc m.length (t__law_mixed K) ⟨svs ++ List.replicate (4 - svs.length) .un, m⟩ (retE Ψ) := by
  refine NoI.keep (fun _ wNoI => ?_) ?_
  simp only [↓ NoI.wrOf wNoI (by
  clear wNoI
  rintro Zc _ _ Ψ ⟨b, T, things, ds, rfl, rfl, hw, hi, hl, k⟩
  unfold t__law_mixed
  walk_at "ev"
  walk_at "nrm"
  refine ex_for (it_seq ?_)
  walk_at "ev"
  refine ⟨_, hi, fun i s => ∃ (b' : Bag) (es : List D), es.Perm (ds.take i) ∧ WB (T + (ds.length - i)) b' ∧ s = ⟨[.own 0, .dat things, .own 1, .un], [some b'.d, some (.list es)]⟩, To.of _ ⟨b, [], by simp, by simpa using hw, rfl⟩ (by walk_at "wk") (by walk_at "wk") (by simp), ?_, ?_⟩
  · rintro i d _ hd ⟨b', es, hp, hw', rfl⟩ hn
    have hi' : i < ds.length := (List.getElem?_eq_some_iff.mp hd).1
    have hl' : es.length = i := by rw [hp.length_eq, List.length_take]; omega
    walk_at "ev"
    refine ⟨⟨_, rfl⟩, ?_⟩
    walk_at "ev"
    refine ⟨_, rfl, b', T + (ds.length - (i + 1)), _, rfl, rfl, hw'.less (by omega), by omega, by omega, fun m' v b2 v0 v1 hw2 hm => ⟨_, _, rfl, hm, ?_⟩⟩
    walk_at "nrm"
    walk_at "ev"
    refine mt_insertS rfl (Nat.lt_of_lt_of_le (by omega : es.length < 1000000) (small (by omega))) v0 (by omega) ?_
    walk_at "nrm"
    refine To.of _ ⟨b2, es.take v.toNat ++ [d] ++ es.drop v.toNat, ?_, hw2, rfl⟩ (by walk_at "wk") (by walk_at "wk") (by simp)
    rw [List.take_add_one, hd]
    refine List.Perm.trans ?_ (List.Perm.append_right _ hp)
    rw [List.append_assoc]
    refine (List.perm_append_comm_assoc _ _ _).trans ?_
    rw [List.take_append_drop]
    exact List.perm_append_comm
  · rintro _ ⟨b', es, hp, hw', rfl⟩ hn
    refine ex_ret (ev_D ?_)
    walk_at "ev"
    rw [List.take_length] at hp
    exact k _ es b' hp (by simpa using hw') rfl
  )]
  intro _ hNoI
  simpa using (fun (_ : NoI.Sg) => hNoI) [5]
theorem wp__law_alike {K : PySem.W.Frag} : ∀ Zc svs m Ψ, C__law_alike svs m Ψ → ExS K Zc m.length (t__law_alike K) ⟨svs ++ List.replicate (2 - svs.length) .un, m⟩ (retE Ψ) := by
  refine NoI.keep (fun _ wNoI => ?_) ?_
  simp only [↓ NoI.wrOf wNoI (by
  clear wNoI
  rintro Zc _ _ Ψ ⟨d, rfl, rfl, hf | ⟨i, rfl, hi⟩ | ⟨hf, hd⟩, k⟩
  · unfold t__law_alike
    walk_at "ev"
    refine os_eqB rfl rfl hf.sh hf.sh (PySem.SeqAt.eqv_refl d (SeqAt.canLay_of_shaped hf.sh)) ?_
    walk_at "ev"
    refine ⟨fun _ => ?_, fun h => by cases h⟩
    walk_at "ev"
    refine cb_reprX rfl hf.fl hf.sw hf.nd hf.dp hf.sz ?_
    walk_at "ev"
    refine cb_reprX rfl hf.fl hf.sw hf.nd hf.dp hf.sz ?_
    walk_at "ev"
    rw [decide_eq_true rfl]
    exact k _
  · unfold t__law_alike
    walk_at "ev"
    refine ⟨fun _ => ?_, fun h => by simp at h⟩
    walk_at "ev"
    refine cb_reprI rfl hi ?_
    walk_at "ev"
    refine cb_reprI rfl hi ?_
    walk_at "ev"
    rw [decide_eq_true rfl]
    exact k _
  · unfold t__law_alike
    walk_at "ev"
    refine os_eqV (d := d) rfl rfl hd ?_
    walk_at "ev"
    refine ⟨fun _ => ?_, fun h => by cases h⟩
    walk_at "ev"
    refine cb_reprV rfl hf hd ?_
    walk_at "ev"
    refine cb_reprV rfl hf hd ?_
    walk_at "ev"
    rw [decide_eq_true rfl]
    exact k _
  )]
  intro _ hNoI
  simpa using (fun (_ : NoI.Sg) => hNoI) [5]
end LW

namespace LW
open PySem PySem.Spec PyProof.Rows L2 SH
variable [WW]

/-! ### the calls of the bag's defs, in one step each -/
section
variable {sl : List SV} {mem : Mem} {Φ : SV → S → Prop} {j : Nat} {b : Bag} {T : Nat}
theorem use_take {many : Int} (hm : mem[j]? = some (some b.d)) (hw : WB (T + 1) b) (m0 : 0 < many) (m1 : many < 2 ^ 40) (k : ∀ (v : Int) (b' : Bag), 0 ≤ v → v < many → WB T b' → Φ (.dat (.int v)) ⟨sl, mem.set j (some b'.d)⟩) :
    ∃ bs, mem[j]? = some (some bs) ∧ C__law_take (.own 0 :: [PyData.int many].map SV.dat) [some bs] (backB ⟨sl, mem⟩ j Φ) :=
  ⟨_, hm, b, T, many, rfl, rfl, hw, m0, m1, fun m' v b' v0 v1 hw' hm' => ⟨_, _, rfl, hm', k v b' v0 v1 hw'⟩⟩
theorem use_some {things : D} {ds : List D} (hm : mem[j]? = some (some b.d)) (hw : WB (T + 1) b) (hi : itemsD things = some ds) (hn : ds ≠ []) (hl : ds.length < 1000000) (k : ∀ (d : D) (b' : Bag), d ∈ ds → WB T b' → Φ (.dat d) ⟨sl, mem.set j (some b'.d)⟩) :
    ∃ bs, mem[j]? = some (some bs) ∧ C__law_some (.own 0 :: [things].map SV.dat) [some bs] (backB ⟨sl, mem⟩ j Φ) :=
  ⟨_, hm, b, T, things, ds, rfl, rfl, hw, hi, hn, hl, fun m' v b' v0 hw' hm' => ⟨_, _, rfl, hm', k v b' v0 hw'⟩⟩
theorem use_mixed {things : D} {ds : List D} (hm : mem[j]? = some (some b.d)) (hw : WB (T + ds.length) b) (hi : itemsD things = some ds) (hl : ds.length < 1000000) (k : ∀ (es : List D) (b' : Bag), es.Perm ds → WB T b' → Φ (.dat (.list es)) ⟨sl, mem.set j (some b'.d)⟩) :
    ∃ bs, mem[j]? = some (some bs) ∧ C__law_mixed (.own 0 :: [things].map SV.dat) [some bs] (backB ⟨sl, mem⟩ j Φ) :=
  ⟨_, hm, b, T, things, ds, rfl, rfl, hw, hi, hl, fun m' v b' v0 hw' hm' => ⟨_, _, rfl, hm', k v b' v0 hw'⟩⟩
end
/-! ### letters -/
abbrev letters : Str := "abcdefghijklmnopqrstuvwxyz"
theorem letters_len : letters.cps.toList.length = 26 := by decide +kernel
theorem letters_ok : ∀ c ∈ letters.cps.toList, 97 ≤ c ∧ c ≤ 122 := by decide +kernel
def lt (v : Int) : Nat := letters.cps.toList.getD v.toNat 0
theorem lt_at {v : Int} (h0 : 0 ≤ v) (h1 : v < 26) : atI letters.cps.toList v = some (lt v) ∧ 97 ≤ lt v ∧ lt v ≤ 122 := by
  refine NoI.keep (fun _ wNoI => ?_) ?_
  simp only [↓ NoI.wrOf wNoI (by
  clear wNoI
  obtain ⟨j, rfl⟩ := Int.eq_ofNat_of_zero_le h0
  have hj : j < letters.cps.toList.length := by rw [letters_len]; omega
  have e : lt (j : Int) = letters.cps.toList[j] := by
    unfold lt
    rw [Int.toNat_natCast, List.getD_eq_getElem?_getD, List.getElem?_eq_getElem hj]
    rfl
  rw [e]
  exact ⟨atI_nat (List.getElem?_eq_getElem hj), letters_ok _ (List.getElem_mem hj)⟩
  )]
  intro _ hNoI
  simpa using (fun (_ : NoI.Sg) => hNoI) [5]
theorem rangeD_at {n k : Nat} {d : D} (h : (rangeD 0 n)[k]? = some d) : k < n ∧ d = .int (k : Int) := by
  refine NoI.keep (fun _ wNoI => ?_) ?_
  simp only [↓ NoI.wrOf wNoI (by
  clear wNoI
  simp only [rangeD, List.getElem?_map, Option.map_eq_some_iff] at h
  obtain ⟨i, h1, h2⟩ := h
  obtain ⟨h3, h4⟩ := List.getElem?_eq_some_iff.mp h1
  simp at h3 h4
  subst h4
  exact ⟨h3, by rw [← h2, Int.zero_add]⟩
  )]
  intro _ hNoI
  simpa using (fun (_ : NoI.Sg) => hNoI) [5]
theorem perm_strs {es : List D} {xs : List Str} (h : es.Perm (dS xs)) : ∃ ys : List Str, es = dS ys ∧ ys.Perm xs := by
  refine NoI.keep (fun _ wNoI => ?_) ?_
  simp only [↓ NoI.wrOf wNoI (by
  clear wNoI
  let un : D → Option Str := fun d => match d with
    | .str x => some x
    | _ => none
  have hx : ∀ zs : List Str, (dS zs).filterMap un = zs := by
    intro zs
    induction zs with
    | nil => rfl
    | cons z zs ih =>
      show ((.str z : D) :: dS zs).filterMap un = z :: zs
      rw [List.filterMap_cons, ih]
  have hm : ∀ d ∈ es, ∃ x, d = .str x := fun d hd => by
    obtain ⟨x, _, rfl⟩ := List.mem_map.mp (h.mem_iff.mp hd)
    exact ⟨x, rfl⟩
  refine ⟨es.filterMap un, ?_, ?_⟩
  · clear h
    induction es with
    | nil => rfl
    | cons d es ih =>
      obtain ⟨x, rfl⟩ := hm d List.mem_cons_self
      show _ = dS (((.str x : D) :: es).filterMap un)
      rw [List.filterMap_cons]
      show _ = (.str x : D) :: dS (es.filterMap un)
      rw [← ih fun d hd => hm d (List.mem_cons_of_mem _ hd)]
  · have := h.filterMap un
    rwa [hx] at this
  )]
  intro _ hNoI
  simpa using (fun (_ : NoI.Sg) => hNoI) [5]
theorem name_one {c : Nat} (h : 97 ≤ c ∧ c ≤ 122) : NameOk ⟨#[c]⟩ := ⟨fun x hx => by simp at hx; subst hx; exact h, by show 1 ≤ 12; decide⟩
/-- short words of letters -/
def Short (n : Nat) (x : Str) : Prop := (∀ c ∈ x.cps.toList, 97 ≤ c ∧ c ≤ 122) ∧ x.length ≤ n
theorem short_add {n k : Nat} {x y : Str} (h1 : Short n x) (h2 : Short k y) : Short (n + k) (x ++ y) := by
  refine NoI.keep (fun _ wNoI => ?_) ?_
  simp only [↓ NoI.wrOf wNoI (by
  clear wNoI
  have e : (x ++ y).cps = x.cps ++ y.cps := rfl
  refine ⟨fun c hc => ?_, ?_⟩
  · rw [e, Array.toList_append, List.mem_append] at hc
    exact hc.elim (h1.1 c) (h2.1 c)
  · have := h1.2
    have := h2.2
    show (x ++ y).cps.size ≤ _
    rw [e, Array.size_append]
    show x.length + y.length ≤ _
    omega
  )]
  intro _ hNoI
  simpa using (fun (_ : NoI.Sg) => hNoI) [5]
theorem join_toList : ∀ ys : List Str, (Txt.join "" ys).cps.toList = (ys.map fun y => y.cps.toList).flatten := by
  refine NoI.keep (fun _ wNoI => ?_) ?_
  simp only [↓ NoI.wrOf wNoI (by
  clear wNoI
  have go : ∀ (ys : List Str) (acc : Array Nat), (ys.foldl (fun acc p => acc ++ (Str.ofString "").cps ++ p.cps) acc).toList = acc.toList ++ (ys.map fun y => y.cps.toList).flatten := by
    intro ys
    induction ys with
    | nil => intro acc; simp
    | cons y ys ih =>
      intro acc
      rw [List.foldl_cons, ih]
      have : (Str.ofString "").cps.toList = [] := by decide
      simp [this]
  intro ys
  cases ys with
  | nil => decide
  | cons y ys => exact go ys y.cps
  )]
  intro _ hNoI
  simpa using (fun (_ : NoI.Sg) => hNoI) [5]
theorem short_join {ys : List Str} {n : Nat} (h : ∀ y ∈ ys, Short 1 y) (hn : ys.length ≤ n) : Short n (Txt.join "" ys) := by
  refine NoI.keep (fun _ wNoI => ?_) ?_
  simp only [↓ NoI.wrOf wNoI (by
  clear wNoI
  have e := join_toList ys
  refine ⟨fun c hc => ?_, ?_⟩
  · rw [e] at hc
    obtain ⟨l, hl, hc⟩ := List.mem_flatten.mp hc
    obtain ⟨y, hy, rfl⟩ := List.mem_map.mp hl
    exact (h y hy).1 c hc
  · show (Txt.join "" ys).cps.size ≤ n
    rw [← Array.length_toList, e]
    clear e
    have : ∀ zs : List Str, (∀ y ∈ zs, Short 1 y) → ((zs.map fun y => y.cps.toList).flatten).length ≤ zs.length := by
      intro zs
      induction zs with
      | nil => intro _; simp
      | cons z zs ih =>
        intro h
        have h1 := (h z List.mem_cons_self).2
        have h2 := ih fun y hy => h y (List.mem_cons_of_mem _ hy)
        have h3 : z.cps.toList.length = z.length := by rw [Array.length_toList]; rfl
        simp only [List.map_cons, List.flatten_cons, List.length_append, List.length_cons]
        omega
    exact Nat.le_trans (this ys h) hn
  )]
  intro _ hNoI
  simpa using (fun (_ : NoI.Sg) => hNoI) [5]
theorem mul_one {c : Nat} {n : Int} (h0 : 1 ≤ n) (h1 : n ≤ 9) (hc : 97 ≤ c ∧ c ≤ 122) : MulOk ⟨#[c]⟩ n ∧ NameOk (Txt.mul ⟨#[c]⟩ n) := by
  refine NoI.keep (fun _ wNoI => ?_) ?_
  simp only [↓ NoI.wrOf wNoI (by
  clear wNoI
  have l1 : (⟨#[c]⟩ : Str).length = 1 := rfl
  constructor
  · refine ⟨by simp; omega, fun _ _ => ?_, fun _ _ => ?_⟩
    · rw [l1]
      have : n = 1 ∨ n = 2 ∨ n = 3 ∨ n = 4 ∨ n = 5 ∨ n = 6 ∨ n = 7 ∨ n = 8 ∨ n = 9 := by omega
      rcases this with rfl | rfl | rfl | rfl | rfl | rfl | rfl | rfl | rfl <;> decide
    · rw [l1]
      have : n = 1 ∨ n = 2 ∨ n = 3 ∨ n = 4 ∨ n = 5 ∨ n = 6 ∨ n = 7 ∨ n = 8 ∨ n = 9 := by omega
      rcases this with rfl | rfl | rfl | rfl | rfl | rfl | rfl | rfl | rfl <;> decide
  · have : n = 1 ∨ n = 2 ∨ n = 3 ∨ n = 4 ∨ n = 5 ∨ n = 6 ∨ n = 7 ∨ n = 8 ∨ n = 9 := by omega
    have go : ∀ x : Str, (∀ d ∈ x.cps.toList, d = c) → x.length ≤ 12 → NameOk x := fun x hx hl => ⟨fun d hd => by rw [hx d hd]; exact hc, hl⟩
    rcases this with rfl | rfl | rfl | rfl | rfl | rfl | rfl | rfl | rfl <;> exact go _ (by intro d hd; simpa [Txt.mul, l1, List.replicate] using hd) (by simp [Txt.mul, l1, List.replicate, Str.length])
  )]
  intro _ hNoI
  simpa using (fun (_ : NoI.Sg) => hNoI) [5]
abbrev words9 : List Str := ["service", "restarts", "hop", "pin", "edit", "from", "to", "stuck", "spare"]
theorem words9_ok : NamesOk words9 := by
  intro x hx
  have : ∀ x ∈ words9, (∀ c ∈ x.cps.toList, 97 ≤ c ∧ c ≤ 122) ∧ x.length ≤ 12 := by decide +kernel
  exact this x hx
theorem names_str {f : Nat → Str} {many k : Nat} {e : D} (h : (dS ((List.range many).map f))[k]? = some e) : e = .str (f k) := by
  refine NoI.keep (fun _ wNoI => ?_) ?_
  simp only [↓ NoI.wrOf wNoI (by
  clear wNoI
  obtain ⟨x, h1, rfl⟩ := dS_at h
  simp only [List.getElem?_map, Option.map_eq_some_iff] at h1
  obtain ⟨i, h2, rfl⟩ := h1
  have h3 := (List.getElem?_eq_some_iff.mp h2)
  obtain ⟨h4, h5⟩ := h3
  simp at h5
  rw [h5]
  )]
  intro _ hNoI
  simpa using (fun (_ : NoI.Sg) => hNoI) [5]
theorem names_ok {f : Nat → Str} {many : Nat} (h : ∀ k, k < many → NameOk (f k)) : NamesOk ((List.range many).map f) := fun x hx => by
  obtain ⟨k, hk, rfl⟩ := List.mem_map.mp hx
  exact h k (List.mem_range.mp hk)
theorem lt_inj {a b : Int} (a0 : 0 ≤ a) (a1 : a < 26) (b0 : 0 ≤ b) (b1 : b < 26) (h : lt a = lt b) : a = b := by
  refine NoI.keep (fun _ wNoI => ?_) ?_
  simp only [↓ NoI.wrOf wNoI (by
  clear wNoI
  have nd : letters.cps.toList.Nodup := by decide +kernel
  have g : ∀ v : Int, 0 ≤ v → v < 26 → ∃ hj : v.toNat < letters.cps.toList.length, lt v = letters.cps.toList[v.toNat] := fun v v0 v1 => by
    have hj : v.toNat < letters.cps.toList.length := by rw [letters_len]; omega
    refine ⟨hj, ?_⟩
    unfold lt
    rw [List.getD_eq_getElem?_getD, List.getElem?_eq_getElem hj]
    rfl
  obtain ⟨ha, ea⟩ := g a a0 a1
  obtain ⟨hb, eb⟩ := g b b0 b1
  have := (List.getElem_inj nd).mp (by rw [← ea, ← eb, h] : letters.cps.toList[a.toNat] = letters.cps.toList[b.toNat])
  omega
  )]
  intro _ hNoI
  simpa using (fun (_ : NoI.Sg) => hNoI) [5]
theorem lt_mod_inj {first : Int} {i j many : Nat} (hm : many ≤ 9) (hi : i < many) (hj : j < many) (h : lt ((first + (i : Int)) % 26) = lt ((first + (j : Int)) % 26)) : i = j := by
  refine NoI.keep (fun _ wNoI => ?_) ?_
  simp only [↓ NoI.wrOf wNoI (by
  clear wNoI
  have := lt_inj (Int.emod_nonneg _ (by decide)) (Int.emod_lt_of_pos _ (by decide)) (Int.emod_nonneg _ (by decide)) (Int.emod_lt_of_pos _ (by decide)) h
  omega
  )]
  intro _ hNoI
  simpa using (fun (_ : NoI.Sg) => hNoI) [5]
theorem nodup_range {α : Type} {f : Nat → α} {many : Nat} (h : ∀ i j, i < many → j < many → f i = f j → i = j) : ((List.range many).map f).Nodup := by
  refine List.pairwise_map.mpr ((List.nodup_range (n := many)).imp_of_mem fun {a b} ha hb ne e => ne (h a b (List.mem_range.mp ha) (List.mem_range.mp hb) e))
theorem one_inj {c d : Nat} (h : (⟨#[c]⟩ : Str) = ⟨#[d]⟩) : c = d := by
  injection h with h
  simpa using h
theorem mul_len {c : Nat} {n : Int} (h0 : 1 ≤ n) (h1 : n ≤ 9) : (Txt.mul ⟨#[c]⟩ n).length = n.toNat := by
  refine NoI.keep (fun _ wNoI => ?_) ?_
  simp only [↓ NoI.wrOf wNoI (by
  clear wNoI
  have l1 : (⟨#[c]⟩ : Str).length = 1 := rfl
  have : n = 1 ∨ n = 2 ∨ n = 3 ∨ n = 4 ∨ n = 5 ∨ n = 6 ∨ n = 7 ∨ n = 8 ∨ n = 9 := by omega
  rcases this with rfl | rfl | rfl | rfl | rfl | rfl | rfl | rfl | rfl <;> simp [Txt.mul, l1, List.replicate, Str.length]
  )]
  intro _ hNoI
  simpa using (fun (_ : NoI.Sg) => hNoI) [5]
theorem add_inj {x : Str} {c d : Nat} (h : x ++ (⟨#[c]⟩ : Str) = x ++ (⟨#[d]⟩ : Str)) : c = d := by
  refine NoI.keep (fun _ wNoI => ?_) ?_
  simp only [↓ NoI.wrOf wNoI (by
  clear wNoI
  have e : ∀ y : Str, (x ++ y).cps = x.cps ++ y.cps := fun _ => rfl
  have := congrArg (fun z : Str => z.cps.toList) h
  simp only [e, Array.toList_append] at this
  simpa using this
  )]
  intro _ hNoI
  simpa using (fun (_ : NoI.Sg) => hNoI) [5]
theorem nodup_of_map {α β : Type} {f : α → β} : ∀ {l : List α}, (l.map f).Nodup → l.Nodup
  | [], _ => List.nodup_nil
  | a :: l, h => by
    rw [List.map_cons, List.nodup_cons] at h
    exact List.nodup_cons.mpr ⟨fun z => h.1 (List.mem_map_of_mem z), nodup_of_map h.2⟩
theorem head_add (c : Nat) (x : Str) : ((⟨#[c]⟩ : Str) ++ x).cps.toList.head? = some c := by
  have e : ((⟨#[c]⟩ : Str) ++ x).cps = #[c] ++ x.cps := rfl
  rw [e, Array.toList_append]
  rfl
theorem wp__law_names {K : PySem.W.Frag} : ∀ Zc svs m Ψ, C__law_names svs m Ψ → ExS K Zc m.length (t__law_names K) ⟨svs ++ List.replicate (9 - svs.length) .un, m⟩ (retE Ψ) := by
  refine NoI.keep (fun _ wNoI => ?_) ?_
  simp only [↓ NoI.wrOf wNoI (by
  clear wNoI
  rintro Zc _ _ Ψ ⟨b, T, many, rfl, rfl, hw, hm1, hm9, k⟩
  unfold t__law_names
  refine ex_cut (fun s => ∃ (b' : Bag) (kind first : Int), 0 ≤ first ∧ first < 26 ∧ WB (T + 90) b' ∧ s = ⟨[.own 0, .dat (.int (many : Int)), .dat (.str letters), .dat (.int kind), .dat (.int first), .un, .un, .un, .un], [some b'.d]⟩) ?_ ?_
  · walk_at "ev"
    refine use_take (T := T + 98) rfl (hw.less (by omega)) (by omega) (by omega) fun kind b1 _ _ hw1 => ?_
    walk_at "ev"
    refine use_take (T := T + 90) rfl (hw1.less (by omega)) (by omega) (by omega) fun first b2 f0 f1 hw2 => ?_
    walk_at "ev"
    exact To.of _ ⟨b2, kind, first, f0, f1, hw2, rfl⟩ (by walk_at "wk") (by walk_at "wk") (by simp)
  · rintro _ ⟨b1, kind, first, f0, f1, hw1, rfl⟩ hn
    refine ex_cut (fun s => ∃ (b' : Bag) (xs : List Str), xs.length = many ∧ NamesOk xs ∧ xs.Nodup ∧ WB (T + 20) b' ∧ s = ⟨[.own 0, .un, .un, .un, .un, .dat (.list (dS xs)), .un, .un, .un], [some b'.d]⟩) ?_ ?_
    · walk_at "ev"
      refine ⟨fun h => ?_, fun h => ?_⟩
      · refine ex_asg (ev_D (ev_lcP (it_range1 ?_)))
        walk_at "ev"
        refine ⟨_, rfl, by omega, by omega, dS ((List.range many).map fun (k : Nat) => ⟨#[lt ((first + (k : Int)) % 26)]⟩), by simp [dS, rangeD], by simp [dS]; omega, ?_, ?_⟩
        · rintro i d e m' hd he rfl
          obtain ⟨hi, rfl⟩ := rangeD_at hd
          rw [names_str he]
          walk_at "ev"
          refine os_uS rfl rfl (by decide +kernel) (lt_at (Int.emod_nonneg _ (by decide)) (Int.emod_lt_of_pos _ (by decide))).1 ?_
          walk_at "ev"
          exact ⟨rfl, Wk.of (by walk_at "wk") (by walk_at "wk")⟩
        · walk_at "ev"
          refine To.of _ ⟨b1, (List.range many).map fun (k : Nat) => ⟨#[lt ((first + (k : Int)) % 26)]⟩, by simp, names_ok fun k hk => name_one (lt_at (Int.emod_nonneg _ (by decide)) (Int.emod_lt_of_pos _ (by decide))).2, nodup_range fun i j hi hj h => lt_mod_inj hm9 hi hj (one_inj h), hw1.less (by omega), rfl⟩ (by walk_at "wk") (by walk_at "wk") (by simp)
      · walk_at "ev"
        refine ⟨fun h => ?_, fun h => ?_⟩
        · refine ex_asg (ev_D (ev_lcP (it_range1 ?_)))
          walk_at "ev"
          refine ⟨_, rfl, by omega, by omega, dS ((List.range many).map fun (k : Nat) => Txt.mul ⟨#[lt first]⟩ ((k : Int) + 1)), by simp [dS, rangeD], by simp [dS]; omega, ?_, ?_⟩
          · rintro i d e m' hd he rfl
            obtain ⟨hi, rfl⟩ := rangeD_at hd
            rw [names_str he]
            walk_at "ev"
            refine os_uS rfl rfl (by decide +kernel) (lt_at f0 f1).1 ?_
            walk_at "ev"
            · exact ⟨rfl, Wk.of (by walk_at "wk") (by walk_at "wk")⟩
            · exact (mul_one (by omega) (by omega) (lt_at f0 f1).2).1
          · walk_at "ev"
            refine To.of _ ⟨b1, (List.range many).map fun (k : Nat) => Txt.mul ⟨#[lt first]⟩ ((k : Int) + 1), by simp, names_ok fun k hk => (mul_one (by omega) (by omega) (lt_at f0 f1).2).2, nodup_range fun i j hi hj h => (by have := congrArg Str.length h; rw [mul_len (by omega) (by omega), mul_len (by omega) (by omega)] at this; omega), hw1.less (by omega), rfl⟩ (by walk_at "wk") (by walk_at "wk") (by simp)
        · walk_at "ev"
          refine ⟨fun h => ?_, fun h => ?_⟩
          · refine ex_cut (fun s => ∃ (b' : Bag) (stem : Str), Short 11 stem ∧ WB (T + 40) b' ∧ s = ⟨[.own 0, .dat (.int (many : Int)), .dat (.str letters), .dat (.int kind), .dat (.int first), .un, .dat (.str stem), .un, .un], [some b'.d]⟩) ?_ ?_
            · walk_at "ev"
              refine ⟨_, rfl, ?_⟩
              refine ev_lc gw_name (it_range1 ?_)
              walk_at "ev"
              refine use_take (T := T + 80) rfl (hw1.less (by omega)) (by omega) (by omega) fun v b2 v0 v1 hw2 => ?_
              walk_at "ev"
              walk_at "nrm"
              refine ⟨_, rfl, by omega, by omega, fun i s => ∃ (b' : Bag) (ys : List Str), ys.length = i ∧ i ≤ 11 ∧ (∀ y ∈ ys, Short 1 y) ∧ WB (T + 80 - i) b' ∧ s = ⟨[.own 0, .dat (.int (many : Int)), .dat (.str letters), .dat (.int kind), .dat (.int first), .un, .un, .un, .un], [some b'.d, some (.list (dS ys))]⟩,
                ⟨b2, [], rfl, by omega, by simp, hw2, rfl⟩, ?_, ?_⟩
              · rintro i d _ hd ⟨b3, ys, rfl, hi, hy, hw3, rfl⟩ _
                obtain ⟨hi', rfl⟩ := rangeD_at hd
                walk_at "ev"
                refine ⟨fun _ => ?_, fun h => by cases h⟩
                walk_at "ev"
                refine use_some (T := T + 80 - (ys.length + 1)) rfl (hw3.less (by omega)) rfl (by decide +kernel) (by decide +kernel) fun d b4 hd4 hw4 => ?_
                walk_at "ev"
                obtain ⟨c, hc, rfl⟩ := List.mem_map.mp hd4
                refine ⟨_, rfl, small (by simp [dS]; omega), ?_⟩
                walk_at "nrm"
                refine To.of _ ⟨b4, ys ++ [⟨#[c]⟩], by simp, by omega, ?_, hw4, rfl⟩ (by walk_at "wk") (by simp [WkMs, dS]) (by simp)
                intro y hy'
                rcases List.mem_append.mp hy' with q | q
                · exact hy y q
                · simp at q
                  subst q
                  exact ⟨(name_one (letters_ok c hc)).1, Nat.le_refl _⟩
              · rintro _ ⟨b3, ys, hl, hi, hy, hw3, rfl⟩
                refine ⟨ys, .inl rfl, ?_, ?_⟩
                · have : ∀ zs : List Str, (∀ y ∈ zs, Short 1 y) → (zs.map (·.length)).sum ≤ zs.length := by
                    intro zs
                    induction zs with
                    | nil => intro _; simp
                    | cons z zs ih =>
                      intro h
                      have h1 := (h z List.mem_cons_self).2
                      have h2 := ih fun y hy => h y (List.mem_cons_of_mem _ hy)
                      simp only [List.map_cons, List.sum_cons, List.length_cons]
                      omega
                  have h1 := this ys hy
                  have h2 : (Str.ofString "").length = 0 := by decide
                  rw [h2, Nat.mul_zero]
                  omega
                · walk_at "ev"
                  exact To.of _ ⟨b3, _, short_join hy (by omega), hw3.less (by omega), rfl⟩ (by walk_at "wk") (by walk_at "wk") (by simp)
            · rintro _ ⟨b2, stem, hs, hw2, rfl⟩ _
              refine ex_asg (ev_D (ev_lcP (it_range1 ?_)))
              walk_at "ev"
              refine ⟨_, rfl, by omega, by omega, dS ((List.range many).map fun (k : Nat) => stem ++ (⟨#[lt ((first + (k : Int)) % 26)]⟩ : Str)), by simp [dS, rangeD], by simp [dS]; omega, ?_, ?_⟩
              · rintro i d e m' hd he rfl
                obtain ⟨hi, rfl⟩ := rangeD_at hd
                rw [names_str he]
                walk_at "ev"
                refine os_uS rfl rfl (by decide +kernel) (lt_at (Int.emod_nonneg _ (by decide)) (Int.emod_lt_of_pos _ (by decide))).1 ?_
                walk_at "ev"
                · exact ⟨rfl, Wk.of (by walk_at "wk") (by walk_at "wk")⟩
                · have := hs.2
                  exact small (by show stem.length + 1 ≤ _; omega)
              · walk_at "ev"
                refine To.of _ ⟨b2, (List.range many).map fun (k : Nat) => stem ++ (⟨#[lt ((first + (k : Int)) % 26)]⟩ : Str), by simp, names_ok fun k hk => short_add hs ⟨(name_one (lt_at (Int.emod_nonneg _ (by decide)) (Int.emod_lt_of_pos _ (by decide))).2).1, Nat.le_refl _⟩, nodup_range fun i j hi hj h => lt_mod_inj hm9 hi hj (add_inj h), hw2.less (by omega), rfl⟩ (by walk_at "wk") (by walk_at "wk") (by simp)
          · walk_at "ev"
            refine ⟨fun h => ?_, fun h => ?_⟩
            · refine ex_asg (ev_D ?_)
              walk_at "ev"
              refine use_mixed (T := T + 80) rfl (hw1.less (by simp only [List.length_cons, List.length_nil]; omega)) rfl (by decide) fun es b2 hp hw2 => ?_
              obtain ⟨ys, rfl, hp'⟩ := perm_strs (xs := words9) hp
              walk_at "nrm"
              walk_at "ev"
              walk_at "nrm"
              have hl := hp'.length_eq
              have hl9 : words9.length = 9 := rfl
              have ec : SH.cutD (dS ys) none (some (many : Int)) = dS (ys.take many) := by
                unfold SH.cutD
                rw [HT.sIx_nat, HT.sIx_none, List.drop_zero, Nat.sub_zero]
                simp only [dS, List.length_map]
                rw [← List.map_take, show ys.take (min many ys.length) = ys.take many by rw [List.take_eq_take_iff]; omega]
              rw [ec]
              exact To.of _ ⟨b2, ys.take many, by rw [List.length_take]; omega, fun x hx => words9_ok x (hp'.mem_iff.mp (List.mem_of_mem_take hx)), ((hp'.nodup_iff.mpr (by decide +kernel)).sublist (List.take_sublist _ _)), hw2.less (by omega), rfl⟩ (by walk_at "wk") (by walk_at "wk") (by simp)
            · refine ex_asg (ev_D ?_)
              refine ev_lc gw_name (it_range1 ?_)
              walk_at "ev"
              walk_at "nrm"
              refine ⟨_, rfl, by omega, by omega, fun i s => ∃ (b' : Bag) (ys : List Str), ys.length = i ∧ i ≤ 9 ∧ NamesOk ys ∧ ys.map (fun y => y.cps.toList.head?) = (List.range i).map (fun (k : Nat) => some (lt ((first + (k : Int)) % 26))) ∧ WB (T + 90 - i) b' ∧ s = ⟨[.own 0, .dat (.int (many : Int)), .dat (.str letters), .dat (.int kind), .dat (.int first), .un, .un, .un, .un], [some b'.d, some (.list (dS ys))]⟩,
                ⟨b1, [], rfl, by omega, fun x hx => by simp at hx, rfl, hw1, rfl⟩, ?_, ?_⟩
              · rintro i d _ hd ⟨b3, ys, rfl, hi, hy, hhd, hw3, rfl⟩ _
                obtain ⟨hi', rfl⟩ := rangeD_at hd
                walk_at "ev"
                refine ⟨fun _ => ?_, fun h => by cases h⟩
                walk_at "ev"
                have hlt := lt_at (v := (first + (ys.length : Int)) % 26) (Int.emod_nonneg _ (by decide)) (Int.emod_lt_of_pos _ (by decide))
                refine os_uS rfl rfl (by decide +kernel) hlt.1 ?_
                walk_at "ev"
                · refine use_some (T := T + 90 - (ys.length + 1)) rfl (hw3.less (by omega)) rfl (by nofun) (by show 4 < 1000000; decide) fun d b4 hd4 hw4 => ?_
                  obtain ⟨x, rfl, hx⟩ : ∃ x : Str, d = .str x ∧ Short 11 x := by
                    have c11 : Short 11 (cutS letters none (some 11)) := by
                      refine ⟨fun c hc => letters_ok c ?_, by decide +kernel⟩
                      revert c
                      decide +kernel
                    rcases List.mem_cons.mp hd4 with rfl | h
                    · exact ⟨_, rfl, by decide +kernel, by decide +kernel⟩
                    rcases List.mem_cons.mp h with rfl | h
                    · exact ⟨_, rfl, by decide +kernel, by decide +kernel⟩
                    rcases List.mem_cons.mp h with rfl | h
                    · exact ⟨_, rfl, by decide +kernel, by decide +kernel⟩
                    rcases List.mem_cons.mp h with rfl | h
                    · exact ⟨_, rfl, c11⟩
                    · cases h
                  walk_at "ev"
                  · walk_at "nrm"
                    refine ⟨dS ys, rfl, small (by simp [dS]; omega), ?_⟩
                    refine To.of ⟨_, [some b4.d, some (.list (dS (ys ++ [⟨#[lt ((first + (ys.length : Int)) % 26)]⟩ ++ x])))]⟩ ⟨b4, _, by simp, by omega, ?_, ?_, hw4, rfl⟩ (by walk_at "wk") (by simp [WkMs, dS]) (by simp)
                    · intro y hy'
                      rcases List.mem_append.mp hy' with q | q
                      · exact hy y q
                      · simp at q
                        subst q
                        exact short_add (n := 1) (k := 11) ⟨(name_one hlt.2).1, Nat.le_refl _⟩ hx
                    · rw [List.map_append, hhd, List.range_succ, List.map_append]
                      congr 1
                      rw [List.map_cons, List.map_nil, head_add]
                      rfl
                  · have := hx.2
                    exact small (by show 1 + x.length ≤ _; omega)
                · decide +kernel
              · rintro _ ⟨b3, ys, hl, hi, hy, hhd, hw3, rfl⟩
                walk_at "ev"
                exact To.of _ ⟨b3, ys, by simpa [rangeD] using hl, hy, nodup_of_map (by rw [hhd]; exact nodup_range fun i j hi2 hj2 h => lt_mod_inj hi hi2 hj2 (Option.some.inj h)), hw3.less (by omega), rfl⟩ (by walk_at "wk") (by walk_at "wk") (by simp)
    · rintro _ ⟨b2, xs, hl, hx, hnd, hw2, rfl⟩ _
      walk_at "ev"
      refine use_mixed (T := T) rfl (hw2.less (by simp [dS]; omega)) rfl (by simp [dS]; omega) fun es b3 hp hw3 => ?_
      obtain ⟨ys, rfl, hp'⟩ := perm_strs hp
      exact k _ ys b3 (by rw [hp'.length_eq, hl]) (fun x hx' => hx x (hp'.mem_iff.mp hx')) (hp'.nodup_iff.mpr hnd) hw3 rfl
  )]
  intro _ hNoI
  simpa using (fun (_ : NoI.Sg) => hNoI) [5]
end LW

namespace LW
open PySem PySem.Spec PyProof.Rows L2 SH
variable [WW]

/-! ### the mathematics of reduced words -/
def Red : List Str → Prop
  | [] => True
  | [_] => True
  | x :: y :: r => x ≠ y ∧ Red (y :: r)
theorem Red.tail {x : Str} {r : List Str} (h : Red (x :: r)) : Red r := by
  cases r with
  | nil => trivial
  | cons y r => exact h.2
theorem push_red {st : List Str} (h : Red st) (x : Str) : Red (push st x) := by
  cases st with
  | nil => trivial
  | cons y ys =>
    simp only [push]
    split
    · exact h.tail
    · rename_i e
      exact ⟨fun z => e z.symm, h⟩
theorem foldl_red : ∀ {ws st : List Str}, Red st → Red (ws.foldl push st)
  | [], _, h => h
  | w :: ws, _, h => foldl_red (ws := ws) (push_red h w)
theorem stk_red (ws : List Str) : Red (stk ws) := foldl_red (st := []) trivial
theorem foldl_revd : ∀ {ws st : List Str}, Red (ws.reverse ++ st) → ws.foldl push st = ws.reverse ++ st
  | [], st, _ => rfl
  | w :: ws, st, h => by
    have e : (w :: ws).reverse ++ st = ws.reverse ++ (w :: st) := by simp
    rw [e] at h ⊢
    have hw : push st w = w :: st := by
      cases st with
      | nil => rfl
      | cons y ys =>
        have : Red (w :: y :: ys) := by
          clear e
          generalize ws.reverse = vs at h
          induction vs with
          | nil => exact h
          | cons v vs ih => exact ih (Red.tail h)
        exact if_neg fun q => this.1 q.symm
    rw [List.foldl_cons, hw]
    exact foldl_revd h
/-- the places of equal neighbours -/
def hits (ws : List Str) (n : Nat) : List Nat := (List.range n).filter fun k => decide (ws[k]? = ws[k + 1]?)
end LW

namespace LW
open PySem PySem.Spec PyProof.Rows L2 SH
variable [WW]

theorem redS_names {a : List Str} (h : NamesOk a) : NamesOk (redS a) := fun x hx => stk_names h x (by simpa [redS] using hx)
theorem redS_len (a : List Str) : (redS a).length ≤ a.length := by
  have := stk_len a
  simpa [redS] using this
/-! ### data that can be told -/
theorem lay_strs : ∀ ws : List Str, NamesOk ws → PyData.canLayAll0 (dS ws) = true ∧ PyData.depthAll (dS ws) = 0 ∧ PyData.showableAll (dS ws) = true ∧ PyData.hasDictAll (dS ws) = false ∧ PyData.leavesShortAll 8 (dS ws) = true ∧ PyData.weightAll (dS ws) ≤ 13 * ws.length
  | [], _ => ⟨rfl, rfl, rfl, rfl, rfl, Nat.le_refl _⟩
  | w :: ws, h => by
    obtain ⟨h1, h2, h3, h4, h5, h6⟩ := lay_strs ws fun x hx => h x (List.mem_cons_of_mem _ hx)
    obtain ⟨c1, c2⟩ := h w List.mem_cons_self
    have hs : PyData.strOk w = true := by
      unfold PyData.strOk
      rw [Array.all_eq_true_iff_forall_mem]
      intro c hc
      have := c1 c (by simpa using hc)
      simp
      omega
    have hb : (w.cps.toList.all fun c => decide (c < 16 ^ 8)) = true := by
      rw [List.all_eq_true]
      intro c hc
      have := c1 c hc
      simp
      omega
    have hw : w.cps.size ≤ 12 := c2
    refine ⟨?_, ?_, ?_, ?_, ?_, ?_⟩
    · show (PyData.strOk w && PyData.canLayAll0 (dS ws)) = true
      rw [hs, h1]; rfl
    · show max 0 (PyData.depthAll (dS ws)) = 0
      rw [h2]; rfl
    · show (true && PyData.showableAll (dS ws)) = true
      rw [h3]; rfl
    · show (false || PyData.hasDictAll (dS ws)) = false
      rw [h4]; rfl
    · show ((w.cps.toList.all fun c => decide (c < 16 ^ 8)) && PyData.leavesShortAll 8 (dS ws)) = true
      rw [hb, h5]; rfl
    · show w.cps.size + 1 + PyData.weightAll (dS ws) ≤ 13 * (ws.length + 1)
      omega
end LW

namespace LW
open PySem PySem.Spec PyProof.Rows L2 SH
variable [WW]

section
variable {sl : List SV} {mem : Mem} {Φ : SV → S → Prop} {j : Nat} {b : Bag} {T : Nat}
theorem use_names {many : Nat} (hm : mem[j]? = some (some b.d)) (hw : WB (T + 100) b) (m0 : 1 ≤ many) (m1 : many ≤ 9) (k : ∀ (xs : List Str) (b' : Bag), xs.length = many → NamesOk xs → xs.Nodup → WB T b' → Φ (.dat (.list (dS xs))) ⟨sl, mem.set j (some b'.d)⟩) :
    ∃ bs, mem[j]? = some (some bs) ∧ C__law_names (.own 0 :: [PyData.int (many : Int)].map SV.dat) [some bs] (backB ⟨sl, mem⟩ j Φ) :=
  ⟨_, hm, b, T, many, rfl, rfl, hw, m0, m1, fun m' xs b' h1 h2 h3 hw' hm' => ⟨_, _, rfl, hm', k xs b' h1 h2 h3 hw'⟩⟩
end
theorem law_start {K : PySem.W.Frag} {H : Hp} {a : Addr} {ns : List Int} (hl : ns.length ≤ 63) (hO : Only H) (hS : SqL K H a (ns.map V.int)) : spP K C_law [.ref a] H (fun v _ => v = .bl true) fun _ _ _ => False := by
  refine NoI.keep (fun _ wNoI => ?_) ?_
  simp only [↓ NoI.wrOf wNoI (by
  clear wNoI
  refine ⟨fun _ => False, [], [.ro ns], [], fun rv m' => rv = .dat (.bool true), ⟨ns, rfl, rfl, hl, fun m' => rfl⟩, ⟨⟨a, rfl, ?_⟩, trivial⟩, ⟨fun i ds e => by simp at e, fun i j a ds es e => by simp at e, fun a h => h.elim, fun a h => h.elim, Nat.le_refl _⟩, ?_⟩
  · refine Same.seq (fun b o e => Fz_of ?_ e) hS
    rintro (h | h)
    · exact h
    · exact not_live_nil h
  · rintro v ad' H' rv m' rfl _ _ r
    cases (show DV _ _ v (.bool true) from r)
    rfl
  )]
  intro _ hNoI
  simpa using (fun (_ : NoI.Sg) => hNoI) [5]
end LW

namespace LW
open PySem PySem.Spec PyProof.Rows L2 SH
variable [WW]
section
variable {names : List Str} {st : List Int × Int} {x : Str}
end
end LW

namespace LW
open PySem PySem.Spec PyProof.Rows L2 SH
variable [WW]
theorem dS_len (ns : List Str) : (dS ns).length = ns.length := by simp [dS]
end LW

namespace LW
open PySem PySem.Spec PyProof.Rows L2 SH
variable [WW]
theorem shaped_strs {ws : List Str} (h : NamesOk ws) : SeqAt.shaped (.list (dS ws)) = true := by
  obtain ⟨h1, h2, _⟩ := lay_strs ws h
  unfold SeqAt.shaped PyData.canLay0 PyData.depth
  rw [h1, h2]
  rfl
theorem wp__law_reduced {K : PySem.W.Frag} : ∀ Zc svs m Ψ, C__law_reduced svs m Ψ → ExS K Zc m.length (t__law_reduced K) ⟨svs ++ List.replicate (3 - svs.length) .un, m⟩ (retE Ψ) := by
  refine NoI.keep (fun _ wNoI => ?_) ?_
  simp only [↓ NoI.wrOf wNoI (by
  clear wNoI
  rintro Zc _ _ Ψ ⟨ws, dd, rfl, hseq, rfl, h1, h2, k⟩
  unfold t__law_reduced
  walk_at "ev"
  walk_at "nrm"
  refine ex_for (it_seq ?_)
  have hitem : itemsD dd = some (dS ws) := by
    cases dd <;> first | (cases hseq; done) | (simp only [seqD] at hseq; cases hseq; rfl)
  walk_at "ev"
  refine ⟨_, hitem, fun i s => s = ⟨[.dat dd, .own 0, .un], [some (.list (dS (stk (ws.take i)).reverse))]⟩, To.of _ rfl (by walk_at "wk") (by walk_at "wk") (Nat.zero_le _), ?_, ?_⟩
  · rintro i d _ hd rfl hn
    obtain ⟨x, hx, rfl⟩ := dS_at hd
    have nx : NameOk x := h1 x (List.mem_of_getElem? hx)
    have hs := stk_take hx
    have hl : (stk (ws.take i)).length ≤ 1000000 := by
      have := stk_len (ws.take i)
      rw [List.length_take] at this
      omega
    have ns := stk_names (take_names h1 i)
    dsimp only
    rw [hs]
    generalize stk (ws.take i) = st at hl ns
    clear hd hs hn
    walk_at "ev"
    walk_at "nrm"
    have nsr : NamesOk st.reverse := fun y hy => ns y (List.mem_reverse.mp hy)
    refine os_ne rfl rfl (shaped_strs nsr) rfl ?_
    walk_at "ev"
    refine ⟨fun hb => ?_, fun hb => ⟨by nofun, fun _ => ?_⟩⟩
    · cases st with
      | nil => simp [dS, PyData.eqv, PyData.eqvAll] at hb
      | cons y ys =>
        have e : dS (y :: ys).reverse = dS ys.reverse ++ [.str y] := by simp [dS]
        rw [e]
        walk_at "ev"
        refine os_uL rfl rfl (atI_last _ _) ?_
        walk_at "ev"
        refine ⟨fun e2 => ?_, fun e2 => ?_⟩
        · have e2 : y = x := of_decide_eq_true e2
          walk_at "ev"
          refine ⟨⟨_, rfl⟩, mt_popS rfl (d := .str y) (by simp) ?_⟩
          walk_at "nrm"
          refine To.of _ rfl (by walk_at "wk") ?_ (Nat.zero_le _)
          simp [WkMs, push, e2, dS]
        · have e2 : ¬ y = x := of_decide_eq_false e2
          walk_at "ev"
          refine ⟨⟨_, rfl⟩, ?_⟩
          walk_at "ev"
          refine mt_appendS rfl (small (by simp [dS] at hl ⊢; omega)) ?_
          walk_at "nrm"
          refine To.of _ rfl (by walk_at "wk") ?_ (Nat.zero_le _)
          simp [WkMs, push, e2, dS]
    · cases st with
      | cons y ys =>
        have e : dS (y :: ys).reverse = dS ys.reverse ++ [.str y] := by simp [dS]
        rw [e] at hb
        cases q : dS ys.reverse <;> rw [q] at hb <;> simp [PyData.eqv, PyData.eqvAll] at hb
      | nil =>
        walk_at "ev"
        refine ⟨⟨_, rfl⟩, ?_⟩
        walk_at "ev"
        refine mt_appendS rfl (small (by simp [dS])) ?_
        walk_at "nrm"
        exact To.of _ rfl (by walk_at "wk") (by simp [WkMs, push, dS]) (Nat.zero_le _)
  · rintro _ rfl hn
    have e : stk (ws.take (dS ws).length) = stk ws := by
      rw [List.take_of_length_le (by simp [dS])]
    rw [e]
    walk_at "ev"
    exact k _
  )]
  intro _ hNoI
  simpa using (fun (_ : NoI.Sg) => hNoI) [5]
/-! draws that are kept -/
end LW

namespace LW
open PySem PySem.Spec PyProof.Rows L2 SH
variable [WW]
end LW

namespace LW
open PySem PySem.Spec PyProof.Rows L2 SH
variable [WW]
end LW

namespace LW
open PySem PySem.Spec PyProof.Rows L2 SH
variable [WW]
end LW

namespace LW
open PySem PySem.Spec PyProof.Rows L2 SH
variable [WW]
end LW

namespace SH
open PySem PySem.Spec PyProof.Rows L2
variable [WW]
/-- a cell is given up ahead of a statement -/
theorem ex_fz {K : PySem.W.Frag} {Zc : Addr → Prop} {n : Nat} {s : S} {De : DE} {t : TS} {i : Nat} {e : D} (he : s.mem[i]? = some (some e)) (h : ExS K Zc n t (s.fz i e) De) : ExS K Zc n t s De := by
  refine NoI.keep (fun _ wNoI => ?_) ?_
  simp only [↓ NoI.wrOf wNoI (by
  clear wNoI
  intro ad H σ Dd I hn k1 k2 k3 k4
  have F1 : Frm Zc n ad s.mem H ad (s.fz i e).mem H := (Frm.drop (i := i)).less hn
  exact h ad H σ Dd (I.fz he) (by simpa [S.fz] using hn) (fun σ2 ad2 H2 s2 a b c => k1 σ2 ad2 H2 s2 a b (F1.trans c (Nat.le_refl n))) (fun v ad2 H2 rv m2 a b c d => k2 v ad2 H2 rv m2 a b (F1.trans c (Nat.le_refl n)) d)
    (fun σ2 ad2 H2 s2 a b c => k3 σ2 ad2 H2 s2 a b (F1.trans c (Nat.le_refl n))) fun σ2 ad2 H2 s2 a b c => k4 σ2 ad2 H2 s2 a b (F1.trans c (Nat.le_refl n))
  )]
  intro _ hNoI
  simpa using (fun (_ : NoI.Sg) => hNoI) [5]
end SH
namespace LW
open PySem PySem.Spec PyProof.Rows L2 SH
variable [WW]
end LW

namespace LW
open PySem PySem.Spec PyProof.Rows L2 SH
variable [WW]
/-! ### data that can be told, part by part -/
structure Lay (k W : Nat) (d : D) : Prop where
  la : d.canLay0 = true
  dp : d.depth ≤ k
  sw : d.showable = true
  nd : d.hasDict = false
  ls : d.leavesShort 8 = true
  wt : d.weight ≤ W
structure LayA (k W : Nat) (ds : List D) : Prop where
  la : PyData.canLayAll0 ds = true
  dp : PyData.depthAll ds ≤ k
  sw : PyData.showableAll ds = true
  nd : PyData.hasDictAll ds = false
  ls : PyData.leavesShortAll 8 ds = true
  wt : PyData.weightAll ds ≤ W
theorem LayA.nil {k W : Nat} : LayA k W [] := ⟨rfl, Nat.zero_le _, rfl, rfl, rfl, Nat.zero_le _⟩
theorem LayA.cons {k V W : Nat} {d : D} {ds : List D} (h : Lay k V d) (t : LayA k W ds) : LayA k (V + 1 + W) (d :: ds) := by
  refine NoI.keep (fun _ wNoI => ?_) ?_
  simp only [↓ NoI.wrOf wNoI (by
  clear wNoI
  refine ⟨?_, ?_, ?_, ?_, ?_, ?_⟩
  · show (d.canLay0 && PyData.canLayAll0 ds) = true
    rw [h.la, t.la]; rfl
  · show max d.depth (PyData.depthAll ds) ≤ k
    have := h.dp; have := t.dp; omega
  · show (d.showable && PyData.showableAll ds) = true
    rw [h.sw, t.sw]; rfl
  · show (d.hasDict || PyData.hasDictAll ds) = false
    rw [h.nd, t.nd]; rfl
  · show (d.leavesShort 8 && PyData.leavesShortAll 8 ds) = true
    rw [h.ls, t.ls]; rfl
  · show d.weight + 1 + PyData.weightAll ds ≤ _
    have := h.wt; have := t.wt; omega
  )]
  intro _ hNoI
  simpa using (fun (_ : NoI.Sg) => hNoI) [5]
theorem LayA.all {k V : Nat} : ∀ {ds : List D}, (∀ d ∈ ds, Lay k V d) → LayA k ((V + 1) * ds.length) ds
  | [], _ => .nil
  | d :: ds, h => by
    have := LayA.cons (h d List.mem_cons_self) (LayA.all (ds := ds) fun e he => h e (List.mem_cons_of_mem _ he))
    rw [List.length_cons, Nat.mul_add, Nat.mul_one, Nat.add_comm]
    exact this
theorem LayA.less {k j V W : Nat} {ds : List D} (h : LayA k V ds) (a : k ≤ j) (b : V ≤ W) : LayA j W ds := ⟨h.la, Nat.le_trans h.dp a, h.sw, h.nd, h.ls, Nat.le_trans h.wt b⟩
theorem Lay.less {k j V W : Nat} {d : D} (h : Lay k V d) (a : k ≤ j) (b : V ≤ W) : Lay j W d := ⟨h.la, Nat.le_trans h.dp a, h.sw, h.nd, h.ls, Nat.le_trans h.wt b⟩
theorem LayA.list {k W : Nat} {ds : List D} (h : LayA k W ds) : Lay (k + 1) W (.list ds) :=
  ⟨by simpa [PyData.canLay0] using h.la, by have := h.dp; simp [PyData.depth]; omega, by simpa [PyData.showable] using h.sw, by simpa [PyData.hasDict] using h.nd, by simpa [PyData.leavesShort] using h.ls, by simpa [PyData.weight] using h.wt⟩
theorem LayA.tup {k W : Nat} {ds : List D} (h : LayA k W ds) : Lay (k + 1) W (.tuple ds) :=
  ⟨by simpa [PyData.canLay0] using h.la, by have := h.dp; simp [PyData.depth]; omega, by simpa [PyData.showable] using h.sw, by simpa [PyData.hasDict] using h.nd, by simpa [PyData.leavesShort] using h.ls, by simpa [PyData.weight] using h.wt⟩
theorem lay_strA {ws : List Str} (h : NamesOk ws) : LayA 0 (13 * ws.length) (dS ws) := by
  obtain ⟨h1, h2, h3, h4, h5, h6⟩ := lay_strs ws h
  exact ⟨h1, by omega, h3, h4, h5, h6⟩
section
variable {sl : List SV} {mem : Mem} {Φ : SV → S → Prop} {j : Nat} {b : Bag} {T : Nat}
end
end LW

namespace LW
open PySem PySem.Spec PyProof.Rows L2 SH
variable [WW]
section
variable {F : Fleet} {w : List Str}
def pairD (st : List Int × Int) : D := .list [.tuple (dI st.1), .int st.2]
end
section
variable {sl : List SV} {mem : Mem} {Φ : SV → S → Prop} {j : Nat} {b : Bag} {T : Nat} {F : Fleet} {w : List Str}
end
end LW

namespace LW
open PySem PySem.Spec PyProof.Rows L2 SH
variable [WW]
end LW

end
section

local macro_rules | `(tactic| walk_at "ev1") => `(tactic| first
  | (with_reducible refine SH.ex_seq ?_)
  | (with_reducible refine SH.back ?_)
  | ((with_reducible show (true = true → _) ∧ (true = false → _)); refine ⟨fun _ => ?_, fun shh => Bool.noConfusion shh⟩)
  | ((with_reducible show (false = true → _) ∧ (false = false → _)); refine ⟨fun shh => Bool.noConfusion shh, fun _ => ?_⟩)
  | ((with_reducible show ((!true) = true → _) ∧ ((!true) = false → _)); refine ⟨fun shh => Bool.noConfusion shh, fun _ => ?_⟩)
  | ((with_reducible show ((!false) = true → _) ∧ ((!false) = false → _)); refine ⟨fun _ => ?_, fun shh => Bool.noConfusion shh⟩)
  | ((with_reducible show ∃ shE1 shE2, [_, _] = [shE1, shE2] ∧ _); refine ⟨_, _, rfl, ?_⟩)
  | ((with_reducible show ∃ shE1 shE2 shE3, [_, _, _] = [shE1, shE2, shE3] ∧ _); refine ⟨_, _, _, rfl, ?_⟩)
  | ((with_reducible show (∃ shE1, SH.rd _ _ = some (PySem.PyData.list shE1)) ∧ _); refine ⟨⟨_, rfl⟩, ?_⟩)
  | ((with_reducible show SH.MtS _ _ L2.rAppend _ _ _ _); refine SH.mt_appendS rfl ?_ ?_; rotate_left 1)
  | ((with_reducible show ∃ shE1 shE2, SH.rd _ (SH.SV.dat (PySem.PyData.bool _)) = some shE1 ∧ SH.truD shE1 = some shE2 ∧ _); refine ⟨_, _, rfl, rfl, by nofun, ?_⟩)
  | (with_reducible refine SH.ex_if ?_)
  | (with_reducible refine SH.ex_ret ?_)
  | (with_reducible refine SH.ex_drop ?_)
  | (with_reducible refine SH.ex_augS ?_)
  | (with_reducible refine SH.ex_put ?_)
  | ((with_reducible show SH.ExS _ _ _ (L2.tAsg _ (L2.gTup _ _ (L2.gCons (L2.gSub _ _ SH.rSetU) _))) _ _); refine SH.ex_asgT ?_)
  | ((with_reducible show SH.ExS _ _ _ (L2.tAsg _ (L2.gSub _ _ SH.rSetU)) _ _); refine SH.ex_asgT ?_)
  | (with_reducible refine SH.ex_asg ?_)
  | (with_reducible refine SH.ex_next ?_)
  | (with_reducible refine SH.ex_par ?_)
  | (with_reducible refine SH.ex_par3 ?_)
  | (with_reducible refine SH.ex_break ?_)
  | (with_reducible refine SH.ex_cont ?_)
  | (with_reducible refine SH.g_name ?_)
  | (with_reducible refine SH.gt_name ?_)
  | (with_reducible refine SH.gt_cons ?_)
  | (with_reducible refine SH.gt_nil ?_)
  | ((with_reducible refine SH.gt_tup (ds := ?shS) ?shA ?shB ?shD ?shC); (case shA => exact rfl); (case shB => exact rfl); (case shD => exact rfl))
  | (with_reducible refine SH.g_cons ?_)
  | (with_reducible refine SH.g_nil ?_)
  | ((with_reducible refine SH.g_tup (ds := ?shS) ?shA ?shB ?shD ?shC); (case shA => exact rfl); (case shB => exact rfl); (case shD => exact rfl))
  | (with_reducible refine SH.tt_test ?_)
  | (with_reducible refine SH.tt_tru ?_)
  | (with_reducible refine SH.tt_and ?_)
  | (with_reducible refine SH.tt_or ?_)
  | (with_reducible refine SH.tt_not ?_)
  | (with_reducible refine SH.tt_yes ?_)
  | (with_reducible refine SH.ev_isi (by decide) ?_)
  | (with_reducible refine SH.ev_dnew ?_)
  | (with_reducible refine SH.ev_disp1 ?_)
  | (with_reducible refine SH.ev_upper ?_)
  | (with_reducible refine SH.ev_int ?_)
  | (with_reducible refine SH.ev_str ?_)
  | (with_reducible refine SH.ev_bl ?_)
  | (with_reducible refine SH.ev_non ?_)
  | (with_reducible refine SH.ev_op ?_)
  | (with_reducible refine SH.ev_un ?_)
  | (with_reducible refine SH.ev_if ?_)
  | (with_reducible refine SH.ev_sl ?_)
  | (with_reducible refine SH.ev_cb ?_)
  | (with_reducible refine SH.ev_bmL ?_)
  | (with_reducible refine SH.ev_bmL0 ?_)
  | (with_reducible refine SH.ev_tupD ?_)
  | (with_reducible refine SH.ev_lstD ?_)
  | (with_reducible refine SH.ev_andV ?_)
  | (with_reducible refine SH.ev_join ?_)
  | (with_reducible refine SH.asD_dat ?_)
  | (with_reducible refine SH.ad_nil ?_)
  | (with_reducible refine SH.ad_cons ?_)
  | (with_reducible refine SH.ar_nil ?_)
  | (with_reducible refine SH.ar_cons ?_)
  | (with_reducible refine SH.pt_none ?_)
  | (with_reducible refine SH.pt_part ?_)
  | (with_reducible refine SH.it_range1 ?_)
  | (with_reducible refine SH.it_range2 ?_)
  | (with_reducible refine SH.it_seq ?_)
  | ((with_reducible refine SH.ev_var (sv := ?shS) ?shA ?shB ?shC); (case shA => exact rfl); (case shB => (intro z; cases z)))
  | ((with_reducible refine SH.ev_callBD (j := ?shS) ?shA ?shC); (case shA => exact rfl))
  | (with_reducible refine SH.ev_callD ?_)
  | ((with_reducible show ∃ shE1, SH.SV.dat (PySem.PyData.bool _) = SH.SV.dat (PySem.PyData.bool shE1) ∧ _); refine ⟨_, rfl, ?_⟩)
  | ((with_reducible show ∃ shE1, SH.SV.dat (PySem.PyData.int _) = SH.SV.dat (PySem.PyData.int shE1) ∧ _); refine ⟨_, rfl, ?_⟩)
  | ((with_reducible refine And.intro (a := _ ≤ PySem.sizeLine) ?shA ?shC); (case shA => (first | decide | (rw [PySem.sizeLine_eq]; simp only [List.length_cons, List.length_nil, List.length_append, List.length_map]; omega))))
  | ((with_reducible refine SH.asD_own (ds := ?shS) ?shA ?shC); (case shA => exact rfl))
  | ((with_reducible show SH.OpS _ _ (SH.rIxU _) _ _ _ _); first | refine SH.os_uL rfl rfl rfl ?_ | refine SH.os_uT rfl rfl rfl ?_)
  | ((with_reducible show SH.OpS _ _ (SH.rAddU _) _ _ _ _); first | refine SH.os_addI rfl rfl ?_ | (refine SH.os_addS rfl rfl ?_ ?_; rotate_left 1) | (refine SH.os_addL rfl rfl ?_ ?_; rotate_left 1) | (refine SH.os_addT rfl rfl ?_ ?_; rotate_left 1))
  | ((with_reducible show SH.OpS _ _ (SH.rMulX _) _ _ _ _); first | (refine SH.os_mxI rfl rfl ?_ ?_; rotate_left 1) | (refine SH.os_mxS rfl rfl ?_ ?_; rotate_left 1))
  | ((with_reducible show SH.OpS _ _ (SH.rEqU _) _ _ _ _); first | refine SH.os_eqI rfl rfl ?_ | refine SH.os_eqS rfl rfl ?_ | refine SH.os_eqO rfl rfl ?_)
  | ((with_reducible show SH.OpS _ _ (SH.rNeU _) _ _ _ _); first | refine SH.os_neI rfl rfl ?_ | refine SH.os_neS rfl rfl ?_ | refine SH.os_neO rfl rfl ?_)
  | ((with_reducible show SH.OpS _ _ _ _ _ _ _); first | refine SH.os_lt rfl rfl ?_ | refine SH.os_le rfl rfl ?_ | refine SH.os_gt rfl rfl ?_ | refine SH.os_ge rfl rfl ?_ | refine SH.os_sub rfl rfl ?_ | (refine SH.os_mod rfl rfl (by decide) ?_) | (refine SH.os_mod rfl rfl ?_ ?_; rotate_left 1) | (refine SH.os_div rfl rfl (by decide) (by decide) ?_) | (refine SH.os_div rfl rfl ?_ ?_ ?_; rotate_left 2) | (refine SH.os_pow rfl rfl ?_ ?_; rotate_left 1))
  | ((with_reducible show SH.UnS _ _ _ _ _ _); first | refine SH.un_neg' rfl ?_)
  | ((with_reducible show SH.SlS _ _ _ _ _ _ _ _); first | refine SH.sl_L rfl ?_ | refine SH.sl_T rfl ?_ | (refine SH.sl_S rfl ?_ ?_; rotate_left 1) | refine SH.sl_ro rfl ?_)
  | ((with_reducible show SH.CbS _ _ _ _ _ _); first | refine SH.cb_lenL rfl ?_ | refine SH.cb_lenT rfl ?_ | (refine SH.cb_lenS rfl ?_ ?_; rotate_left 1) | refine SH.cb_abs rfl ?_ | refine SH.cb_int rfl ?_ | refine SH.cb_listWL rfl ?_ | refine SH.cb_listWT rfl ?_ | refine SH.cb_tupL rfl ?_ | refine SH.cb_tupT rfl ?_ | refine SH.cb_min2 rfl rfl ?_ | refine SH.cb_max2 rfl rfl ?_ | refine SH.cb_rng1 rfl ?_ | refine SH.cb_rng2 rfl rfl ?_))
local macro_rules | `(tactic| walk_at "ev") => `(tactic| repeat walk_at "ev1")
local macro_rules | `(tactic| walk_at "wk") => `(tactic| (repeat' first | exact trivial | exact Or.inl rfl | (refine And.intro ?_ ?_) | exact Or.inr rfl | (refine Or.inr ⟨rfl, ?_⟩; intro j e; first | (cases e; done) | (cases e; show _ < _; first | decide | simp))))
local macro_rules | `(tactic| walk_at "nrm") => `(tactic| dsimp only [SH.S.fz, SH.SV.fz, List.map, List.set, SH.wipeS, List.cons_append, List.nil_append, List.length_cons, List.length_nil, Nat.beq, List.replicate])
local macro_rules | `(tactic| walk_at "go") => `(tactic| (walk_at "ev"; (try walk_at "nrm"); walk_at "ev"; (try walk_at "nrm"); walk_at "ev"; (try walk_at "nrm")))

namespace SH
end SH
namespace LW
open PySem PySem.Spec PyProof.Rows L2 SH
variable [WW]
end LW

namespace LW
open PySem PySem.Spec PyProof.Rows L2 SH
variable [WW]
theorem eqvAll_dS : ∀ (a b : List Str), PyData.eqvAll (dS a) (dS b) = decide (a = b)
  | [], [] => rfl
  | [], _ :: _ => by simp [dS, PyData.eqvAll]
  | _ :: _, [] => by simp [dS, PyData.eqvAll]
  | x :: a, y :: b => by
    show PyData.eqvAll (.str x :: dS a) (.str y :: dS b) = _
    rw [PyData.eqvAll, eqv_str, eqvAll_dS a b]
    by_cases h : x = y <;> simp [h]
theorem eqv_dS (a b : List Str) : PyData.eqv (.tuple (dS a)) (.tuple (dS b)) = decide (a = b) := by
  rw [PyData.eqv]
  exact eqvAll_dS a b
theorem shW {ws : List Str} (h : NamesOk ws) : SeqAt.shaped (.tuple (dS ws)) = true := by
  have := (lay_strA h).tup
  unfold SeqAt.shaped
  rw [this.la, decide_eq_true (by have := this.dp; omega)]
  rfl
section
variable {K : PySem.W.Frag} {Zc : Addr → Prop} {s : S} {x y : SV} {Φ : SV → S → Prop}
theorem os_eqW {a b : List Str} (h1 : rd s.mem x = some (.tuple (dS a))) (h2 : rd s.mem y = some (.tuple (dS b))) (ha : NamesOk a) (hb : NamesOk b) (k : Φ (.dat (.bool (decide (a = b)))) s) : OpS K Zc (rEqU K) x y s Φ :=
  os_eqB h1 h2 (shW ha) (shW hb) (eqv_dS a b) k
theorem os_neW {a b : List Str} (h1 : rd s.mem x = some (.tuple (dS a))) (h2 : rd s.mem y = some (.tuple (dS b))) (ha : NamesOk a) (hb : NamesOk b) (k : Φ (.dat (.bool (!decide (a = b)))) s) : OpS K Zc (rNeU K) x y s Φ := by
  refine os_ne h1 h2 (shW ha) (shW hb) ?_
  rw [eqv_dS]
  exact k
end
end LW

namespace LW
open PySem PySem.Spec PyProof.Rows L2 SH
variable [WW]
end LW

namespace LW
open PySem PySem.Spec PyProof.Rows L2 SH
variable [WW]
end LW

namespace LW
open PySem PySem.Spec PyProof.Rows L2 SH
variable [WW]
end LW

namespace LW
open PySem PySem.Spec PyProof.Rows L2 SH
variable [WW]
theorem cut_to {ds : List D} {k : Nat} : SH.cutD ds none (some (k : Int)) = ds.take k := by
  refine NoI.keep (fun _ wNoI => ?_) ?_
  simp only [↓ NoI.wrOf wNoI (by
  clear wNoI
  unfold SH.cutD
  rw [HT.sIx_nat, HT.sIx_none, List.drop_zero, Nat.sub_zero]
  by_cases h : k ≤ ds.length
  · rw [Nat.min_eq_left h]
  · rw [Nat.min_eq_right (by omega), List.take_of_length_le (Nat.le_refl _), List.take_of_length_le (by omega)]
  )]
  intro _ hNoI
  simpa using (fun (_ : NoI.Sg) => hNoI) [5]
theorem cut_but {ds : List D} : SH.cutD ds none (some (-1)) = ds.dropLast := by
  refine NoI.keep (fun _ wNoI => ?_) ?_
  simp only [↓ NoI.wrOf wNoI (by
  clear wNoI
  unfold SH.cutD
  rw [HT.sIx_none, List.drop_zero, Nat.sub_zero, List.dropLast_eq_take]
  congr 1
  show (if (-1 : Int) < 0 then ((-1 : Int) + (ds.length : Int)).toNat else min (-1 : Int).toNat ds.length) = _
  rw [if_pos (by decide)]
  omega
  )]
  intro _ hNoI
  simpa using (fun (_ : NoI.Sg) => hNoI) [5]
theorem any_str {W k : Nat} {x : Str} (h : ∀ c ∈ x.cps.toList, c < 128) (hl : x.length ≤ W) : Any W k (.str x) :=
  ⟨by show (x.cps.toList.all fun c => decide (c < 128)) = true; exact List.all_eq_true.mpr fun c hc => decide_eq_true (h c hc), hl, Nat.zero_le _⟩
end LW

namespace LW
open PySem PySem.Spec PyProof.Rows L2 SH
variable [WW]
end LW

namespace LW
open PySem PySem.Spec PyProof.Rows L2 SH
variable [WW]
theorem cut_sub {ds : List D} {lo hi : Option Int} : List.Sublist (SH.cutD ds lo hi) ds := (List.take_sublist _ _).trans (List.drop_sublist _ _)
/-! data that are told -/
/-! sizes of any data -/
theorem any_names {w : List Str} (h : NamesOk w) : AnyA (13 * w.length) 0 (dS w) := by
  refine NoI.keep (fun _ wNoI => ?_) ?_
  simp only [↓ NoI.wrOf wNoI (by
  clear wNoI
  have : AnyA ((12 + 1) * (dS w).length) 0 (dS w) := AnyA.of fun d hd => by
    obtain ⟨x, hx, rfl⟩ := List.mem_map.mp hd
    have := h x hx
    exact any_str (fun c hc => by have := this.1 c hc; omega) this.2
  rwa [dS_len] at this
  )]
  intro _ hNoI
  simpa using (fun (_ : NoI.Sg) => hNoI) [5]
section
variable {K : PySem.W.Frag} {Zc : Addr → Prop} {s : S} {x y : SV} {Φ : SV → S → Prop} {sl : List SV} {mem : Mem} {j : Nat} {b : Bag} {T : Nat} {F : Fleet}
theorem os_neR {d e : D} (h1 : rd s.mem x = some d) (h2 : rd s.mem y = some e) (h3 : e = d) (hs : SeqAt.shaped d = true) (k : Φ (.dat (.bool false)) s) : OpS K Zc (rNeU K) x y s Φ := by
  subst h3
  refine os_ne h1 h2 hs hs ?_
  rw [PySem.SeqAt.eqv_refl e (SeqAt.canLay_of_shaped hs)]
  exact k
end
end LW

namespace LW
open PySem PySem.Spec PyProof.Rows L2 SH
variable [WW]
end LW

end
section

local macro_rules | `(tactic| walk_at "ev1") => `(tactic| first
  | (with_reducible refine SH.ex_seq ?_)
  | (with_reducible refine SH.ev_orV ?_)
  | (with_reducible refine SH.ev_notV ?_)
  | (with_reducible refine SH.ev_chain ?_)
  | (with_reducible refine SH.back ?_)
  | ((with_reducible show (true = true → _) ∧ (true = false → _)); refine ⟨fun _ => ?_, fun shh => Bool.noConfusion shh⟩)
  | ((with_reducible show (false = true → _) ∧ (false = false → _)); refine ⟨fun shh => Bool.noConfusion shh, fun _ => ?_⟩)
  | ((with_reducible show ((!true) = true → _) ∧ ((!true) = false → _)); refine ⟨fun shh => Bool.noConfusion shh, fun _ => ?_⟩)
  | ((with_reducible show ((!false) = true → _) ∧ ((!false) = false → _)); refine ⟨fun _ => ?_, fun shh => Bool.noConfusion shh⟩)
  | ((with_reducible show ∃ shE1 shE2, [_, _] = [shE1, shE2] ∧ _); refine ⟨_, _, rfl, ?_⟩)
  | ((with_reducible show ∃ shE1 shE2 shE3, [_, _, _] = [shE1, shE2, shE3] ∧ _); refine ⟨_, _, _, rfl, ?_⟩)
  | ((with_reducible show (∃ shE1, SH.rd _ _ = some (PySem.PyData.list shE1)) ∧ _); refine ⟨⟨_, rfl⟩, ?_⟩)
  | ((with_reducible show SH.MtS _ _ L2.rAppend _ _ _ _); refine SH.mt_appendS rfl ?_ ?_; rotate_left 1)
  | ((with_reducible show ∃ shE1 shE2, SH.rd _ (SH.SV.dat (PySem.PyData.bool _)) = some shE1 ∧ SH.truD shE1 = some shE2 ∧ _); refine ⟨_, _, rfl, rfl, by nofun, ?_⟩)
  | (with_reducible refine SH.ex_if ?_)
  | (with_reducible refine SH.ex_ret ?_)
  | (with_reducible refine SH.ex_drop ?_)
  | (with_reducible refine SH.ex_augS ?_)
  | (with_reducible refine SH.ex_put ?_)
  | ((with_reducible show SH.ExS _ _ _ (L2.tAsg _ (L2.gTup _ _ (L2.gCons (L2.gSub _ _ SH.rSetU) _))) _ _); refine SH.ex_asgT ?_)
  | ((with_reducible show SH.ExS _ _ _ (L2.tAsg _ (L2.gSub _ _ SH.rSetU)) _ _); refine SH.ex_asgT ?_)
  | (with_reducible refine SH.ex_asg ?_)
  | (with_reducible refine SH.ex_next ?_)
  | (with_reducible refine SH.ex_par ?_)
  | (with_reducible refine SH.ex_par3 ?_)
  | (with_reducible refine SH.ex_break ?_)
  | (with_reducible refine SH.ex_cont ?_)
  | (with_reducible refine SH.g_name ?_)
  | (with_reducible refine SH.gt_name ?_)
  | (with_reducible refine SH.gt_cons ?_)
  | (with_reducible refine SH.gt_nil ?_)
  | ((with_reducible refine SH.gt_tup (ds := ?shS) ?shA ?shB ?shD ?shC); (case shA => exact rfl); (case shB => exact rfl); (case shD => exact rfl))
  | (with_reducible refine SH.g_cons ?_)
  | (with_reducible refine SH.g_nil ?_)
  | ((with_reducible refine SH.g_tup (ds := ?shS) ?shA ?shB ?shD ?shC); (case shA => exact rfl); (case shB => exact rfl); (case shD => exact rfl))
  | (with_reducible refine SH.tt_test ?_)
  | (with_reducible refine SH.tt_tru ?_)
  | (with_reducible refine SH.tt_and ?_)
  | (with_reducible refine SH.tt_or ?_)
  | (with_reducible refine SH.tt_not ?_)
  | (with_reducible refine SH.tt_yes ?_)
  | (with_reducible refine SH.ev_isi (by decide) ?_)
  | (with_reducible refine SH.ev_dnew ?_)
  | (with_reducible refine SH.ev_disp1 ?_)
  | (with_reducible refine SH.ev_upper ?_)
  | (with_reducible refine SH.ev_int ?_)
  | (with_reducible refine SH.ev_str ?_)
  | (with_reducible refine SH.ev_bl ?_)
  | (with_reducible refine SH.ev_non ?_)
  | (with_reducible refine SH.ev_op ?_)
  | (with_reducible refine SH.ev_un ?_)
  | (with_reducible refine SH.ev_if ?_)
  | (with_reducible refine SH.ev_sl ?_)
  | (with_reducible refine SH.ev_cb ?_)
  | (with_reducible refine SH.ev_bmL ?_)
  | (with_reducible refine SH.ev_bmL0 ?_)
  | (with_reducible refine SH.ev_tupD ?_)
  | (with_reducible refine SH.ev_lstD ?_)
  | (with_reducible refine SH.ev_andV ?_)
  | (with_reducible refine SH.ev_join ?_)
  | (with_reducible refine SH.asD_dat ?_)
  | (with_reducible refine SH.ad_nil ?_)
  | (with_reducible refine SH.ad_cons ?_)
  | (with_reducible refine SH.ar_nil ?_)
  | (with_reducible refine SH.ar_cons ?_)
  | (with_reducible refine SH.pt_none ?_)
  | (with_reducible refine SH.pt_part ?_)
  | (with_reducible refine SH.it_range1 ?_)
  | (with_reducible refine SH.it_range2 ?_)
  | (with_reducible refine SH.it_seq ?_)
  | ((with_reducible refine SH.ev_var (sv := ?shS) ?shA ?shB ?shC); (case shA => exact rfl); (case shB => (intro z; cases z)))
  | ((with_reducible refine SH.ev_callBD (j := ?shS) ?shA ?shC); (case shA => exact rfl))
  | (with_reducible refine SH.ev_callD ?_)
  | ((with_reducible show ∃ shE1, SH.SV.dat (PySem.PyData.bool _) = SH.SV.dat (PySem.PyData.bool shE1) ∧ _); refine ⟨_, rfl, ?_⟩)
  | ((with_reducible show ∃ shE1, SH.SV.dat (PySem.PyData.int _) = SH.SV.dat (PySem.PyData.int shE1) ∧ _); refine ⟨_, rfl, ?_⟩)
  | ((with_reducible refine And.intro (a := _ ≤ PySem.sizeLine) ?shA ?shC); (case shA => (first | decide | (rw [PySem.sizeLine_eq]; simp only [List.length_cons, List.length_nil, List.length_append, List.length_map]; omega))))
  | ((with_reducible refine SH.asD_own (ds := ?shS) ?shA ?shC); (case shA => exact rfl))
  | ((with_reducible show SH.OpS _ _ (SH.rIxU _) _ _ _ _); first | refine SH.os_uL rfl rfl rfl ?_ | refine SH.os_uT rfl rfl rfl ?_)
  | ((with_reducible show SH.OpS _ _ (SH.rAddU _) _ _ _ _); first | refine SH.os_addI rfl rfl ?_ | (refine SH.os_addS rfl rfl ?_ ?_; rotate_left 1) | (refine SH.os_addL rfl rfl ?_ ?_; rotate_left 1) | (refine SH.os_addT rfl rfl ?_ ?_; rotate_left 1))
  | ((with_reducible show SH.OpS _ _ (SH.rMulX _) _ _ _ _); first | (refine SH.os_mxI rfl rfl ?_ ?_; rotate_left 1) | (refine SH.os_mxS rfl rfl ?_ ?_; rotate_left 1))
  | ((with_reducible show SH.OpS _ _ (SH.rEqU _) _ _ _ _); first | refine SH.os_eqI rfl rfl ?_ | refine SH.os_eqS rfl rfl ?_ | refine SH.os_eqO rfl rfl ?_)
  | ((with_reducible show SH.OpS _ _ (SH.rNeU _) _ _ _ _); first | refine SH.os_neI rfl rfl ?_ | refine SH.os_neS rfl rfl ?_ | refine SH.os_neO rfl rfl ?_)
  | ((with_reducible show SH.OpS _ _ _ _ _ _ _); first | refine SH.os_lt rfl rfl ?_ | refine SH.os_le rfl rfl ?_ | refine SH.os_gt rfl rfl ?_ | refine SH.os_ge rfl rfl ?_ | refine SH.os_sub rfl rfl ?_ | (refine SH.os_mod rfl rfl (by decide) ?_) | (refine SH.os_mod rfl rfl ?_ ?_; rotate_left 1) | (refine SH.os_div rfl rfl (by decide) (by decide) ?_) | (refine SH.os_div rfl rfl ?_ ?_ ?_; rotate_left 2) | (refine SH.os_pow rfl rfl ?_ ?_; rotate_left 1))
  | ((with_reducible show SH.UnS _ _ _ _ _ _); first | refine SH.un_neg' rfl ?_)
  | ((with_reducible show SH.SlS _ _ _ _ _ _ _ _); first | refine SH.sl_L rfl ?_ | refine SH.sl_T rfl ?_ | (refine SH.sl_S rfl ?_ ?_; rotate_left 1) | refine SH.sl_ro rfl ?_)
  | ((with_reducible show SH.CbS _ _ _ _ _ _); first | refine SH.cb_lenL rfl ?_ | refine SH.cb_lenT rfl ?_ | (refine SH.cb_lenS rfl ?_ ?_; rotate_left 1) | refine SH.cb_abs rfl ?_ | refine SH.cb_int rfl ?_ | refine SH.cb_listWL rfl ?_ | refine SH.cb_listWT rfl ?_ | refine SH.cb_tupL rfl ?_ | refine SH.cb_tupT rfl ?_ | refine SH.cb_min2 rfl rfl ?_ | refine SH.cb_max2 rfl rfl ?_ | refine SH.cb_rng1 rfl ?_ | refine SH.cb_rng2 rfl rfl ?_))
local macro_rules | `(tactic| walk_at "ev") => `(tactic| repeat walk_at "ev1")
local macro_rules | `(tactic| walk_at "wk") => `(tactic| (repeat' first | exact trivial | exact Or.inl rfl | (refine And.intro ?_ ?_) | exact Or.inr rfl | (refine Or.inr ⟨rfl, ?_⟩; intro j e; first | (cases e; done) | (cases e; show _ < _; first | decide | simp))))
local macro_rules | `(tactic| walk_at "nrm") => `(tactic| dsimp only [SH.S.fz, SH.SV.fz, List.map, List.set, SH.wipeS, List.cons_append, List.nil_append, List.length_cons, List.length_nil, Nat.beq, List.replicate])
local macro_rules | `(tactic| walk_at "go") => `(tactic| (walk_at "ev"; (try walk_at "nrm"); walk_at "ev"; (try walk_at "nrm"); walk_at "ev"; (try walk_at "nrm")))

/-! contracts of further defs that many laws share -/
namespace LW
open PySem PySem.Spec PyProof.Rows L2 SH
variable [WW]
end LW

namespace LW
open PySem PySem.Spec PyProof.Rows L2 SH
variable [WW]
end LW

namespace LW
open PySem PySem.Spec PyProof.Rows L2 SH
variable [WW]
end LW

namespace LW
open PySem PySem.Spec PyProof.Rows L2 SH
variable [WW]
end LW

/-! leases, as the law counts them -/
namespace LW
open PySem PySem.Spec PyProof.Rows L2 SH
variable [WW]
def leaseD (q : Str × Nat) : D := .tuple [.str q.1, .int (q.2 : Int)]
def allL (F : Fleet) : List (Str × Nat) := F.names.map (fun x => (x, 0)) ++ F.row.mapIdx fun j x => (x, j + 1)
end LW

namespace LW
open PySem PySem.Spec PyProof.Rows L2 SH
variable [WW]
end LW

namespace LW
open PySem PySem.Spec PyProof.Rows L2 SH
variable [WW]
end LW

namespace LW
open PySem PySem.Spec PyProof.Rows L2 SH
variable [WW]
theorem mem_allL {F : Fleet} {x : Str} {k : Nat} : (x, k) ∈ allL F ↔ (x ∈ F.names ∧ k = 0) ∨ (1 ≤ k ∧ F.row[k - 1]? = some x) := by
  refine NoI.keep (fun _ wNoI => ?_) ?_
  simp only [↓ NoI.wrOf wNoI (by
  clear wNoI
  unfold allL
  rw [List.mem_append, List.mem_map, List.mem_mapIdx]
  constructor
  · rintro (⟨y, hy, e⟩ | ⟨j, hj, e⟩)
    · cases e; exact .inl ⟨hy, rfl⟩
    · cases e; exact .inr ⟨by omega, by rw [Nat.add_sub_cancel]; exact List.getElem?_eq_getElem hj⟩
  · rintro (⟨h, rfl⟩ | ⟨h1, h2⟩)
    · exact .inl ⟨x, h, rfl⟩
    · obtain ⟨hj, e⟩ := List.getElem?_eq_some_iff.mp h2
      exact .inr ⟨k - 1, hj, by rw [e, show k - 1 + 1 = k by omega]⟩
  )]
  intro _ hNoI
  simpa using (fun (_ : NoI.Sg) => hNoI) [5]
end LW

/-! tables, as the law makes them -/
namespace LW
open PySem PySem.Spec PyProof.Rows L2 SH
variable [WW]
theorem any_sh {W k : Nat} {d : D} (h : Any W k d) (hW : W ≤ 250000) : Sh d := ⟨(asc_show d h.as).2, by have := h.shown; rw [sizeLine_eq]; omega⟩
end LW

namespace LW
open PySem PySem.Spec PyProof.Rows L2 SH
variable [WW]
end LW


namespace LW
open PySem PySem.Spec PyProof.Rows L2 SH
variable [WW]
theorem allL_ok {F : Fleet} (hF : FOk F) {q : Str × Nat} (h : q ∈ allL F) : q.1 ∈ F.names ∧ q.2 ≤ F.row.length := by
  refine NoI.keep (fun _ wNoI => ?_) ?_
  simp only [↓ NoI.wrOf wNoI (by
  clear wNoI
  obtain ⟨x, k⟩ := q
  rcases mem_allL.mp h with ⟨h1, h2⟩ | ⟨h1, h2⟩
  · exact ⟨h1, by simp only; omega⟩
  · have := (List.getElem?_eq_some_iff.mp h2).1
    exact ⟨hF.rw _ (List.mem_of_getElem? h2), by simp only; omega⟩
  )]
  intro _ hNoI
  simpa using (fun (_ : NoI.Sg) => hNoI) [5]
end LW

namespace LW
open PySem PySem.Spec PyProof.Rows L2 SH
variable [WW]
section
variable {sl : List SV} {mem : Mem} {Φ : SV → S → Prop} {b : Bag} {T j : Nat}
theorem use_alikeA {d e : D} {W kk : Nat} (he : e = d) (ha : Any W kk d) (hW : W ≤ 250000) (hk : kk ≤ 40) (k : Φ (.dat (.bool true)) ⟨sl, mem⟩) : C__law_alike ([d, e].map SV.dat) [] (backP ⟨sl, mem⟩ Φ) := by
  subst he
  exact ⟨_, rfl, rfl, .inr (.inr ⟨any_sh ha hW, Nat.le_trans ha.dp hk⟩), fun m' => k⟩
end
end LW

/-! leases looked at -/
namespace LW
open PySem PySem.Spec PyProof.Rows L2 SH
variable [WW]
/-! ### ascending lists -/
/-! ### restarts, begins, ends -/
def rsN (F : Fleet) (x : Str) : List Nat := (List.range F.row.length).filter fun j => decide (F.row[j]? = some x)
def endOf (F : Fleet) (x : Str) (b : Nat) : Nat := ((rsN F x).find? fun j => decide (b ≤ j)).getD F.row.length
end LW

/-! the order of leases; contracts of what looks at fleets -/
namespace LW
open PySem PySem.Spec PyProof.Rows L2 SH
variable [WW]
/-! ### contracts -/
end LW

namespace LW
open PySem PySem.Spec PyProof.Rows L2 SH
variable [WW]
end LW

end
section

local macro_rules | `(tactic| walk_at "ev1") => `(tactic| first
  | (with_reducible refine SH.ex_seq ?_)
  | (with_reducible refine SH.ev_orV ?_)
  | (with_reducible refine SH.ev_ckw ?_)
  | ((with_reducible show SH.MtS _ _ L2.rExtend _ _ _ _); refine SH.mt_extendS rfl rfl ?_ ?_; rotate_left 1)
  | ((with_reducible show SH.CbS _ _ SH.rTupR _ _ _); refine SH.cb_tupR rfl ?_ ?_ ?_; rotate_left 2)
  | (with_reducible refine SH.ev_notV ?_)
  | (with_reducible refine SH.ev_chain ?_)
  | (with_reducible refine SH.back ?_)
  | ((with_reducible show (true = true → _) ∧ (true = false → _)); refine ⟨fun _ => ?_, fun shh => Bool.noConfusion shh⟩)
  | ((with_reducible show (false = true → _) ∧ (false = false → _)); refine ⟨fun shh => Bool.noConfusion shh, fun _ => ?_⟩)
  | ((with_reducible show ((!true) = true → _) ∧ ((!true) = false → _)); refine ⟨fun shh => Bool.noConfusion shh, fun _ => ?_⟩)
  | ((with_reducible show ((!false) = true → _) ∧ ((!false) = false → _)); refine ⟨fun _ => ?_, fun shh => Bool.noConfusion shh⟩)
  | ((with_reducible show ∃ shE1 shE2, [_, _] = [shE1, shE2] ∧ _); refine ⟨_, _, rfl, ?_⟩)
  | ((with_reducible show ∃ shE1 shE2 shE3, [_, _, _] = [shE1, shE2, shE3] ∧ _); refine ⟨_, _, _, rfl, ?_⟩)
  | ((with_reducible show (∃ shE1, SH.rd _ _ = some (PySem.PyData.list shE1)) ∧ _); refine ⟨⟨_, rfl⟩, ?_⟩)
  | ((with_reducible show SH.MtS _ _ L2.rAppend _ _ _ _); refine SH.mt_appendS rfl ?_ ?_; rotate_left 1)
  | ((with_reducible show ∃ shE1 shE2, SH.rd _ (SH.SV.dat (PySem.PyData.bool _)) = some shE1 ∧ SH.truD shE1 = some shE2 ∧ _); refine ⟨_, _, rfl, rfl, by nofun, ?_⟩)
  | (with_reducible refine SH.ex_if ?_)
  | (with_reducible refine SH.ex_ret ?_)
  | (with_reducible refine SH.ex_drop ?_)
  | (with_reducible refine SH.ex_augS ?_)
  | (with_reducible refine SH.ex_put ?_)
  | ((with_reducible show SH.ExS _ _ _ (L2.tAsg _ (L2.gTup _ _ (L2.gCons (L2.gSub _ _ SH.rSetU) _))) _ _); refine SH.ex_asgT ?_)
  | ((with_reducible show SH.ExS _ _ _ (L2.tAsg _ (L2.gSub _ _ SH.rSetU)) _ _); refine SH.ex_asgT ?_)
  | (with_reducible refine SH.ex_asg ?_)
  | (with_reducible refine SH.ex_next ?_)
  | (with_reducible refine SH.ex_par ?_)
  | (with_reducible refine SH.ex_par3 ?_)
  | (with_reducible refine SH.ex_break ?_)
  | (with_reducible refine SH.ex_cont ?_)
  | (with_reducible refine SH.g_name ?_)
  | (with_reducible refine SH.gt_name ?_)
  | (with_reducible refine SH.gt_cons ?_)
  | (with_reducible refine SH.gt_nil ?_)
  | ((with_reducible refine SH.gt_tup (ds := ?shS) ?shA ?shB ?shD ?shC); (case shA => exact rfl); (case shB => exact rfl); (case shD => exact rfl))
  | (with_reducible refine SH.g_cons ?_)
  | (with_reducible refine SH.g_nil ?_)
  | ((with_reducible refine SH.g_tup (ds := ?shS) ?shA ?shB ?shD ?shC); (case shA => exact rfl); (case shB => exact rfl); (case shD => exact rfl))
  | (with_reducible refine SH.tt_test ?_)
  | (with_reducible refine SH.tt_tru ?_)
  | (with_reducible refine SH.tt_and ?_)
  | (with_reducible refine SH.tt_or ?_)
  | (with_reducible refine SH.tt_not ?_)
  | (with_reducible refine SH.tt_yes ?_)
  | (with_reducible refine SH.ev_isi (by decide) ?_)
  | (with_reducible refine SH.ev_dnew ?_)
  | (with_reducible refine SH.ev_disp1 ?_)
  | (with_reducible refine SH.ev_upper ?_)
  | (with_reducible refine SH.ev_int ?_)
  | (with_reducible refine SH.ev_str ?_)
  | (with_reducible refine SH.ev_bl ?_)
  | (with_reducible refine SH.ev_non ?_)
  | (with_reducible refine SH.ev_op ?_)
  | (with_reducible refine SH.ev_un ?_)
  | (with_reducible refine SH.ev_if ?_)
  | (with_reducible refine SH.ev_sl ?_)
  | (with_reducible refine SH.ev_cb ?_)
  | (with_reducible refine SH.ev_bmL ?_)
  | (with_reducible refine SH.ev_bmL0 ?_)
  | (with_reducible refine SH.ev_tupD ?_)
  | (with_reducible refine SH.ev_lstD ?_)
  | (with_reducible refine SH.ev_andV ?_)
  | (with_reducible refine SH.ev_join ?_)
  | (with_reducible refine SH.asD_dat ?_)
  | (with_reducible refine SH.ad_nil ?_)
  | (with_reducible refine SH.ad_cons ?_)
  | (with_reducible refine SH.ar_nil ?_)
  | (with_reducible refine SH.ar_cons ?_)
  | (with_reducible refine SH.pt_none ?_)
  | (with_reducible refine SH.pt_part ?_)
  | (with_reducible refine SH.it_range1 ?_)
  | (with_reducible refine SH.it_range2 ?_)
  | (with_reducible refine SH.it_seq ?_)
  | ((with_reducible refine SH.ev_var (sv := ?shS) ?shA ?shB ?shC); (case shA => exact rfl); (case shB => (intro z; cases z)))
  | ((with_reducible refine SH.ev_callBD (j := ?shS) ?shA ?shC); (case shA => exact rfl))
  | (with_reducible refine SH.ev_callD ?_)
  | ((with_reducible show ∃ shE1, SH.SV.dat (PySem.PyData.bool _) = SH.SV.dat (PySem.PyData.bool shE1) ∧ _); refine ⟨_, rfl, ?_⟩)
  | ((with_reducible show ∃ shE1, SH.SV.dat (PySem.PyData.int _) = SH.SV.dat (PySem.PyData.int shE1) ∧ _); refine ⟨_, rfl, ?_⟩)
  | ((with_reducible refine And.intro (a := _ ≤ PySem.sizeLine) ?shA ?shC); (case shA => (first | decide | (rw [PySem.sizeLine_eq]; simp only [List.length_cons, List.length_nil, List.length_append, List.length_map]; omega))))
  | ((with_reducible refine SH.asD_own (ds := ?shS) ?shA ?shC); (case shA => exact rfl))
  | ((with_reducible show SH.OpS _ _ (SH.rIxU _) _ _ _ _); first | refine SH.os_uL rfl rfl rfl ?_ | refine SH.os_uT rfl rfl rfl ?_)
  | ((with_reducible show SH.OpS _ _ (SH.rAddU _) _ _ _ _); first | refine SH.os_addI rfl rfl ?_ | (refine SH.os_addS rfl rfl ?_ ?_; rotate_left 1) | (refine SH.os_addL rfl rfl ?_ ?_; rotate_left 1) | (refine SH.os_addT rfl rfl ?_ ?_; rotate_left 1))
  | ((with_reducible show SH.OpS _ _ (SH.rMulX _) _ _ _ _); first | (refine SH.os_mxI rfl rfl ?_ ?_; rotate_left 1) | (refine SH.os_mxS rfl rfl ?_ ?_; rotate_left 1))
  | ((with_reducible show SH.OpS _ _ (SH.rEqU _) _ _ _ _); first | refine SH.os_eqI rfl rfl ?_ | refine SH.os_eqS rfl rfl ?_ | refine SH.os_eqO rfl rfl ?_)
  | ((with_reducible show SH.OpS _ _ (SH.rNeU _) _ _ _ _); first | refine SH.os_neI rfl rfl ?_ | refine SH.os_neS rfl rfl ?_ | refine SH.os_neO rfl rfl ?_)
  | ((with_reducible show SH.OpS _ _ _ _ _ _ _); first | refine SH.os_lt rfl rfl ?_ | refine SH.os_le rfl rfl ?_ | refine SH.os_gt rfl rfl ?_ | refine SH.os_ge rfl rfl ?_ | refine SH.os_sub rfl rfl ?_ | (refine SH.os_mod rfl rfl (by decide) ?_) | (refine SH.os_mod rfl rfl ?_ ?_; rotate_left 1) | (refine SH.os_div rfl rfl (by decide) (by decide) ?_) | (refine SH.os_div rfl rfl ?_ ?_ ?_; rotate_left 2) | (refine SH.os_pow rfl rfl ?_ ?_; rotate_left 1))
  | ((with_reducible show SH.UnS _ _ _ _ _ _); first | refine SH.un_neg' rfl ?_)
  | ((with_reducible show SH.SlS _ _ _ _ _ _ _ _); first | refine SH.sl_L rfl ?_ | refine SH.sl_T rfl ?_ | (refine SH.sl_S rfl ?_ ?_; rotate_left 1) | refine SH.sl_ro rfl ?_)
  | ((with_reducible show SH.CbS _ _ _ _ _ _); first | refine SH.cb_lenL rfl ?_ | refine SH.cb_lenT rfl ?_ | (refine SH.cb_lenS rfl ?_ ?_; rotate_left 1) | refine SH.cb_abs rfl ?_ | refine SH.cb_int rfl ?_ | refine SH.cb_listWL rfl ?_ | refine SH.cb_listWT rfl ?_ | refine SH.cb_tupL rfl ?_ | refine SH.cb_tupT rfl ?_ | refine SH.cb_min2 rfl rfl ?_ | refine SH.cb_max2 rfl rfl ?_ | refine SH.cb_rng1 rfl ?_ | refine SH.cb_rng2 rfl rfl ?_))
local macro_rules | `(tactic| walk_at "ev") => `(tactic| repeat walk_at "ev1")
local macro_rules | `(tactic| walk_at "wk") => `(tactic| (repeat' first | exact trivial | exact Or.inl rfl | (refine And.intro ?_ ?_) | exact Or.inr rfl | (refine Or.inr ⟨rfl, ?_⟩; intro j e; first | (cases e; done) | (cases e; show _ < _; first | decide | simp))))
local macro_rules | `(tactic| walk_at "nrm") => `(tactic| dsimp only [SH.S.fz, SH.SV.fz, List.map, List.set, SH.wipeS, List.cons_append, List.nil_append, List.length_cons, List.length_nil, Nat.beq, List.replicate])
local macro_rules | `(tactic| walk_at "go") => `(tactic| (walk_at "ev"; (try walk_at "nrm"); walk_at "ev"; (try walk_at "nrm"); walk_at "ev"; (try walk_at "nrm")))


namespace LW
open PySem PySem.Spec PyProof.Rows L2 SH
variable [WW]
section
variable {sl : List SV} {mem : Mem} {Φ : SV → S → Prop} {b : Bag} {T j : Nat}
end
end LW


namespace LW
open PySem PySem.Spec PyProof.Rows L2 SH
variable [WW]
theorem rangeD_len (a : Int) (n : Nat) : (rangeD a n).length = n := by simp [rangeD]
section
variable {sl : List SV} {mem : Mem} {Φ : SV → S → Prop} {b : Bag} {T j : Nat}
end
end LW

namespace LW
open PySem PySem.Spec PyProof.Rows L2 SH
variable [WW]
theorem lease_cases {F : Fleet} {q : Str × Nat} (h : q ∈ allL F) : q.2 = 0 ∨ F.row[q.2 - 1]? = some q.1 := by
  obtain ⟨x, k⟩ := q
  rcases mem_allL.mp h with ⟨_, h⟩ | ⟨_, h⟩
  · exact .inl h
  · exact .inr h
section
variable {sl : List SV} {mem : Mem} {Φ : SV → S → Prop} {b : Bag} {T j : Nat}
end
end LW

/-! edits of plans -/
namespace LW
open PySem PySem.Spec PyProof.Rows L2 SH
variable [WW]
section
variable {F : Fleet} {p : List Int} {x : Str} {k : Nat}
/-- no hop from b up to e -/
def stillB (p : List Int) (b e : Nat) : Bool := !(p.any fun j => decide ((b : Int) ≤ j) && decide (j < (e : Int)))
end
structure PinsOk (F : Fleet) (ps : List (Str × Nat)) : Prop where
  al : ∀ q ∈ ps, q ∈ allL F
  ln : ps.length ≤ 70
/-! ### contracts -/
end LW

namespace LW
open PySem PySem.Spec PyProof.Rows L2 SH
variable [WW]
end LW


namespace LW
open PySem PySem.Spec PyProof.Rows L2 SH
variable [WW]
section
variable {sl : List SV} {mem : Mem} {Φ : SV → S → Prop} {b : Bag} {T j : Nat}
end
section
variable {sl : List SV} {mem : Mem} {Φ : SV → S → Prop} {b : Bag} {T j : Nat}
end
end LW


namespace LW
open PySem PySem.Spec PyProof.Rows L2 SH
variable [WW]
end LW


namespace LW
open PySem PySem.Spec PyProof.Rows L2 SH
variable [WW]
end LW


namespace LW
open PySem PySem.Spec PyProof.Rows L2 SH
variable [WW]
theorem shaped_dI (a : List Int) : SeqAt.shaped (.list (dI a)) = true := by
  refine NoI.keep (fun _ wNoI => ?_) ?_
  simp only [↓ NoI.wrOf wNoI (by
  clear wNoI
  have h1 : ∀ ms : List Int, PyData.canLayAll0 (dI ms) = true := by
    intro ms
    induction ms with
    | nil => rfl
    | cons m ms ih => simp [dI, PyData.canLayAll0, PyData.canLay0] at ih ⊢; exact ih
  have h2 : ∀ ms : List Int, PyData.depthAll (dI ms) = 0 := by
    intro ms
    induction ms with
    | nil => rfl
    | cons m ms ih => simp [dI, PyData.depthAll, PyData.depth] at ih ⊢; exact ih
  unfold SeqAt.shaped PyData.canLay0 PyData.depth
  rw [h1, h2]
  rfl
  )]
  intro _ hNoI
  simpa using (fun (_ : NoI.Sg) => hNoI) [5]
section
variable {sl : List SV} {mem : Mem} {Φ : SV → S → Prop} {b : Bag} {T j : Nat}
end
end LW


namespace LW
open PySem PySem.Spec PyProof.Rows L2 SH
variable [WW]
end LW


namespace LW
open PySem PySem.Spec PyProof.Rows L2 SH
variable [WW]
section
variable {sl : List SV} {mem : Mem} {Φ : SV → S → Prop} {b : Bag} {T j : Nat}
end
end LW

/-! scripts of edits -/
namespace LW
open PySem PySem.Spec PyProof.Rows L2 SH
variable [WW]
abbrev Lq := Str × Nat
def q0 : Lq := ("", 0)
structure ScrOk (F : Fleet) (qs : List Lq) : Prop where
  al : ∀ q ∈ qs, q ∈ allL F
  ln : qs.length ≤ 1000000
section
variable {F : Fleet} {p : List Int} {ps qs : List Lq} {i : Nat}
end
/-! ### contracts -/
end LW

namespace LW
open PySem PySem.Spec PyProof.Rows L2 SH
variable [WW]
end LW


namespace LW
open PySem PySem.Spec PyProof.Rows L2 SH
variable [WW]
section
variable {sl : List SV} {mem : Mem} {Φ : SV → S → Prop} {b : Bag} {T j : Nat}
end
section
variable {sl : List SV} {mem : Mem} {Φ : SV → S → Prop} {b : Bag} {T j : Nat}
end
end LW


namespace LW
open PySem PySem.Spec PyProof.Rows L2 SH
variable [WW]
end LW


namespace LW
open PySem PySem.Spec PyProof.Rows L2 SH
variable [WW]
section
variable {F : Fleet} {p : List Int} {ps : List Lq} {q : Lq} {N : Nat} {r : List Lq}
end
section
variable {sl : List SV} {mem : Mem} {Φ : SV → S → Prop} {b : Bag} {T j : Nat}
end
end LW


namespace LW
open PySem PySem.Spec PyProof.Rows L2 SH
variable [WW]
/-- so many leases at most -/
structure Ls (F : Fleet) (n : Nat) (ds : List D) : Prop where
  al : ∀ e ∈ ds, ∃ q, q ∈ allL F ∧ e = leaseD q
  ln : ds.length ≤ n
section
variable {F : Fleet} {n m : Nat} {ds es : List D}
theorem Ls.cut (h : Ls F n ds) (lo hi : Option Int) : Ls F n (SH.cutD ds lo hi) := ⟨fun e he => h.al e (cut_sub.subset he), Nat.le_trans (cut_sub.length_le) h.ln⟩
theorem Ls.app (h : Ls F n ds) (g : Ls F m es) : Ls F (n + m) (ds ++ es) := ⟨fun e he => (List.mem_append.mp he).elim (h.al e) (g.al e), by rw [List.length_append]; have := h.ln; have := g.ln; omega⟩
theorem Ls.rep {q : Lq} (hq : q ∈ allL F) (k : Nat) : Ls F k (List.replicate k (leaseD q)) := ⟨fun e he => ⟨q, hq, List.eq_of_mem_replicate he⟩, by rw [List.length_replicate]; exact Nat.le_refl _⟩
theorem Ls.less (h : Ls F n ds) (k : n ≤ m) : Ls F m ds := ⟨h.al, Nat.le_trans h.ln k⟩
theorem Ls.of {qs : List Lq} (h : ∀ q ∈ qs, q ∈ allL F) (hl : qs.length ≤ n) : Ls F n (qs.map leaseD) := ⟨fun e he => by
  obtain ⟨q, hq, rfl⟩ := List.mem_map.mp he
  exact ⟨q, h q hq, rfl⟩, by rw [List.length_map]; exact hl⟩
end
section
variable {sl : List SV} {mem : Mem} {Φ : SV → S → Prop} {b : Bag} {T j : Nat}
end
section
variable {K : PySem.W.Frag} {Zc : Addr → Prop} {s : S} {x y : SV} {Φ : SV → S → Prop}
end
end LW

end
section

local macro_rules | `(tactic| walk_at "ev1") => `(tactic| first
  | (with_reducible refine SH.ex_seq ?_)
  | (with_reducible refine SH.ex_if ?_)
  | (with_reducible refine SH.ex_ret ?_)
  | (with_reducible refine SH.ex_drop ?_)
  | (with_reducible refine SH.ex_augS ?_)
  | (with_reducible refine SH.ex_put ?_)
  | ((with_reducible show SH.ExS _ _ _ (L2.tAsg _ (L2.gTup _ _ (L2.gCons (L2.gSub _ _ SH.rSetU) _))) _ _); refine SH.ex_asgT ?_)
  | ((with_reducible show SH.ExS _ _ _ (L2.tAsg _ (L2.gSub _ _ SH.rSetU)) _ _); refine SH.ex_asgT ?_)
  | (with_reducible refine SH.ex_asg ?_)
  | (with_reducible refine SH.ex_next ?_)
  | (with_reducible refine SH.ex_par ?_)
  | (with_reducible refine SH.ex_par3 ?_)
  | (with_reducible refine SH.ex_break ?_)
  | (with_reducible refine SH.ex_cont ?_)
  | (with_reducible refine SH.g_name ?_)
  | (with_reducible refine SH.gt_name ?_)
  | (with_reducible refine SH.gt_cons ?_)
  | (with_reducible refine SH.gt_nil ?_)
  | ((with_reducible refine SH.gt_tup (ds := ?shS) ?shA ?shB ?shD ?shC); (case shA => exact rfl); (case shB => exact rfl); (case shD => exact rfl))
  | (with_reducible refine SH.g_cons ?_)
  | (with_reducible refine SH.g_nil ?_)
  | ((with_reducible refine SH.g_tup (ds := ?shS) ?shA ?shB ?shD ?shC); (case shA => exact rfl); (case shB => exact rfl); (case shD => exact rfl))
  | (with_reducible refine SH.tt_test ?_)
  | (with_reducible refine SH.tt_tru ?_)
  | (with_reducible refine SH.tt_and ?_)
  | (with_reducible refine SH.tt_or ?_)
  | (with_reducible refine SH.tt_not ?_)
  | (with_reducible refine SH.tt_yes ?_)
  | (with_reducible refine SH.ev_int ?_)
  | (with_reducible refine SH.ev_str ?_)
  | (with_reducible refine SH.ev_bl ?_)
  | (with_reducible refine SH.ev_non ?_)
  | (with_reducible refine SH.ev_op ?_)
  | (with_reducible refine SH.ev_un ?_)
  | (with_reducible refine SH.ev_if ?_)
  | (with_reducible refine SH.ev_sl ?_)
  | (with_reducible refine SH.ev_cb ?_)
  | (with_reducible refine SH.ev_bmL ?_)
  | (with_reducible refine SH.ev_bmL0 ?_)
  | (with_reducible refine SH.ev_tupD ?_)
  | (with_reducible refine SH.ev_lstD ?_)
  | (with_reducible refine SH.ev_andV ?_)
  | (with_reducible refine SH.ev_join ?_)
  | (with_reducible refine SH.asD_dat ?_)
  | (with_reducible refine SH.ad_nil ?_)
  | (with_reducible refine SH.ad_cons ?_)
  | (with_reducible refine SH.ar_nil ?_)
  | (with_reducible refine SH.ar_cons ?_)
  | (with_reducible refine SH.pt_none ?_)
  | (with_reducible refine SH.pt_part ?_)
  | (with_reducible refine SH.it_range1 ?_)
  | (with_reducible refine SH.it_range2 ?_)
  | (with_reducible refine SH.it_seq ?_)
  | ((with_reducible refine SH.ev_var (sv := ?shS) ?shA ?shB ?shC); (case shA => exact rfl); (case shB => (intro z; cases z)))
  | ((with_reducible refine SH.ev_callBD (j := ?shS) ?shA ?shC); (case shA => exact rfl))
  | (with_reducible refine SH.ev_callD ?_)
  | ((with_reducible show ∃ shE1, SH.SV.dat (PySem.PyData.bool _) = SH.SV.dat (PySem.PyData.bool shE1) ∧ _); refine ⟨_, rfl, ?_⟩)
  | ((with_reducible show ∃ shE1, SH.SV.dat (PySem.PyData.int _) = SH.SV.dat (PySem.PyData.int shE1) ∧ _); refine ⟨_, rfl, ?_⟩)
  | ((with_reducible refine And.intro (a := _ ≤ PySem.sizeLine) ?shA ?shC); (case shA => (first | decide | (rw [PySem.sizeLine_eq]; simp only [List.length_cons, List.length_nil, List.length_append, List.length_map]; omega))))
  | ((with_reducible refine SH.asD_own (ds := ?shS) ?shA ?shC); (case shA => exact rfl))
  | ((with_reducible show SH.OpS _ _ (SH.rIxU _) _ _ _ _); first | refine SH.os_uL rfl rfl rfl ?_ | refine SH.os_uT rfl rfl rfl ?_)
  | ((with_reducible show SH.OpS _ _ (SH.rAddU _) _ _ _ _); first | refine SH.os_addI rfl rfl ?_ | (refine SH.os_addS rfl rfl ?_ ?_; rotate_left 1) | (refine SH.os_addL rfl rfl ?_ ?_; rotate_left 1) | (refine SH.os_addT rfl rfl ?_ ?_; rotate_left 1))
  | ((with_reducible show SH.OpS _ _ (SH.rMulX _) _ _ _ _); first | (refine SH.os_mxI rfl rfl ?_ ?_; rotate_left 1) | (refine SH.os_mxS rfl rfl ?_ ?_; rotate_left 1))
  | ((with_reducible show SH.OpS _ _ (SH.rEqU _) _ _ _ _); first | refine SH.os_eqI rfl rfl ?_ | refine SH.os_eqS rfl rfl ?_)
  | ((with_reducible show SH.OpS _ _ (SH.rNeU _) _ _ _ _); first | refine SH.os_neI rfl rfl ?_ | refine SH.os_neS rfl rfl ?_)
  | ((with_reducible show SH.OpS _ _ _ _ _ _ _); first | refine SH.os_lt rfl rfl ?_ | refine SH.os_le rfl rfl ?_ | refine SH.os_gt rfl rfl ?_ | refine SH.os_ge rfl rfl ?_ | refine SH.os_sub rfl rfl ?_ | (refine SH.os_mod rfl rfl (by decide) ?_) | (refine SH.os_mod rfl rfl ?_ ?_; rotate_left 1) | (refine SH.os_div rfl rfl (by decide) (by decide) ?_) | (refine SH.os_div rfl rfl ?_ ?_ ?_; rotate_left 2) | (refine SH.os_pow rfl rfl ?_ ?_; rotate_left 1))
  | ((with_reducible show SH.UnS _ _ _ _ _ _); first | refine SH.un_neg' rfl ?_)
  | ((with_reducible show SH.SlS _ _ _ _ _ _ _ _); first | refine SH.sl_L rfl ?_ | refine SH.sl_T rfl ?_ | (refine SH.sl_S rfl ?_ ?_; rotate_left 1) | refine SH.sl_ro rfl ?_)
  | ((with_reducible show SH.CbS _ _ _ _ _ _); first | refine SH.cb_lenL rfl ?_ | refine SH.cb_lenT rfl ?_ | (refine SH.cb_lenS rfl ?_ ?_; rotate_left 1) | refine SH.cb_abs rfl ?_ | refine SH.cb_int rfl ?_ | refine SH.cb_listWL rfl ?_ | refine SH.cb_listWT rfl ?_ | refine SH.cb_tupL rfl ?_ | refine SH.cb_tupT rfl ?_ | refine SH.cb_rng1 rfl ?_ | refine SH.cb_rng2 rfl rfl ?_))
local macro_rules | `(tactic| walk_at "ev") => `(tactic| repeat walk_at "ev1")
local macro_rules | `(tactic| walk_at "wk") => `(tactic| (repeat' first | exact trivial | exact Or.inl rfl | (refine And.intro ?_ ?_) | exact Or.inr rfl | (refine Or.inr ⟨rfl, ?_⟩; intro j e; first | (cases e; done) | (cases e; show _ < _; first | decide | simp))))
local macro_rules | `(tactic| walk_at "nrm") => `(tactic| dsimp only [SH.S.fz, SH.SV.fz, List.map, List.set, SH.wipeS, List.cons_append, List.nil_append, List.length_cons, List.length_nil, Nat.beq, List.replicate])
local macro_rules | `(tactic| walk_at "go") => `(tactic| (walk_at "ev"; (try walk_at "nrm"); walk_at "ev"; (try walk_at "nrm"); walk_at "ev"; (try walk_at "nrm")))

namespace LW
open PySem PySem.Spec PyProof.Rows L2 SH
variable [WW]
end LW

namespace LW
open PySem PySem.Spec PyProof.Rows L2 SH
variable [WW]
end LW

end
section

local macro_rules | `(tactic| walk_at "ev1") => `(tactic| first
  | (with_reducible refine SH.ex_seq ?_)
  | (with_reducible refine SH.ev_orV ?_)
  | (with_reducible refine SH.ev_ckw ?_)
  | ((with_reducible show SH.MtS _ _ L2.rExtend _ _ _ _); refine SH.mt_extendS rfl rfl ?_ ?_; rotate_left 1)
  | ((with_reducible show SH.CbS _ _ SH.rTupR _ _ _); refine SH.cb_tupR rfl ?_ ?_ ?_; rotate_left 2)
  | (with_reducible refine SH.ev_notV ?_)
  | (with_reducible refine SH.ev_chain ?_)
  | (with_reducible refine SH.back ?_)
  | ((with_reducible show (true = true → _) ∧ (true = false → _)); refine ⟨fun _ => ?_, fun shh => Bool.noConfusion shh⟩)
  | ((with_reducible show (false = true → _) ∧ (false = false → _)); refine ⟨fun shh => Bool.noConfusion shh, fun _ => ?_⟩)
  | ((with_reducible show ((!true) = true → _) ∧ ((!true) = false → _)); refine ⟨fun shh => Bool.noConfusion shh, fun _ => ?_⟩)
  | ((with_reducible show ((!false) = true → _) ∧ ((!false) = false → _)); refine ⟨fun _ => ?_, fun shh => Bool.noConfusion shh⟩)
  | ((with_reducible show ∃ shE1 shE2, [_, _] = [shE1, shE2] ∧ _); refine ⟨_, _, rfl, ?_⟩)
  | ((with_reducible show ∃ shE1 shE2 shE3, [_, _, _] = [shE1, shE2, shE3] ∧ _); refine ⟨_, _, _, rfl, ?_⟩)
  | ((with_reducible show (∃ shE1, SH.rd _ _ = some (PySem.PyData.list shE1)) ∧ _); refine ⟨⟨_, rfl⟩, ?_⟩)
  | ((with_reducible show SH.MtS _ _ L2.rAppend _ _ _ _); refine SH.mt_appendS rfl ?_ ?_; rotate_left 1)
  | ((with_reducible show ∃ shE1 shE2, SH.rd _ (SH.SV.dat (PySem.PyData.bool _)) = some shE1 ∧ SH.truD shE1 = some shE2 ∧ _); refine ⟨_, _, rfl, rfl, by nofun, ?_⟩)
  | (with_reducible refine SH.ex_if ?_)
  | (with_reducible refine SH.ex_ret ?_)
  | (with_reducible refine SH.ex_drop ?_)
  | (with_reducible refine SH.ex_augS ?_)
  | (with_reducible refine SH.ex_put ?_)
  | ((with_reducible show SH.ExS _ _ _ (L2.tAsg _ (L2.gTup _ _ (L2.gCons (L2.gSub _ _ SH.rSetU) _))) _ _); refine SH.ex_asgT ?_)
  | ((with_reducible show SH.ExS _ _ _ (L2.tAsg _ (L2.gSub _ _ SH.rSetU)) _ _); refine SH.ex_asgT ?_)
  | (with_reducible refine SH.ex_asg ?_)
  | (with_reducible refine SH.ex_next ?_)
  | (with_reducible refine SH.ex_par ?_)
  | (with_reducible refine SH.ex_par3 ?_)
  | (with_reducible refine SH.ex_break ?_)
  | (with_reducible refine SH.ex_cont ?_)
  | (with_reducible refine SH.g_name ?_)
  | (with_reducible refine SH.gt_name ?_)
  | (with_reducible refine SH.gt_cons ?_)
  | (with_reducible refine SH.gt_nil ?_)
  | ((with_reducible refine SH.gt_tup (ds := ?shS) ?shA ?shB ?shD ?shC); (case shA => exact rfl); (case shB => exact rfl); (case shD => exact rfl))
  | (with_reducible refine SH.g_cons ?_)
  | (with_reducible refine SH.g_nil ?_)
  | ((with_reducible refine SH.g_tup (ds := ?shS) ?shA ?shB ?shD ?shC); (case shA => exact rfl); (case shB => exact rfl); (case shD => exact rfl))
  | (with_reducible refine SH.tt_test ?_)
  | (with_reducible refine SH.tt_tru ?_)
  | (with_reducible refine SH.tt_and ?_)
  | (with_reducible refine SH.tt_or ?_)
  | (with_reducible refine SH.tt_not ?_)
  | (with_reducible refine SH.tt_yes ?_)
  | (with_reducible refine SH.ev_isi (by decide) ?_)
  | (with_reducible refine SH.ev_dnew ?_)
  | (with_reducible refine SH.ev_disp1 ?_)
  | (with_reducible refine SH.ev_upper ?_)
  | (with_reducible refine SH.ev_int ?_)
  | (with_reducible refine SH.ev_str ?_)
  | (with_reducible refine SH.ev_bl ?_)
  | (with_reducible refine SH.ev_non ?_)
  | (with_reducible refine SH.ev_op ?_)
  | (with_reducible refine SH.ev_un ?_)
  | (with_reducible refine SH.ev_if ?_)
  | (with_reducible refine SH.ev_sl ?_)
  | (with_reducible refine SH.ev_cb ?_)
  | (with_reducible refine SH.ev_bmL ?_)
  | (with_reducible refine SH.ev_bmL0 ?_)
  | (with_reducible refine SH.ev_tupD ?_)
  | (with_reducible refine SH.ev_lstD ?_)
  | (with_reducible refine SH.ev_andV ?_)
  | (with_reducible refine SH.ev_join ?_)
  | (with_reducible refine SH.asD_dat ?_)
  | (with_reducible refine SH.ad_nil ?_)
  | (with_reducible refine SH.ad_cons ?_)
  | (with_reducible refine SH.ar_nil ?_)
  | (with_reducible refine SH.ar_cons ?_)
  | (with_reducible refine SH.pt_none ?_)
  | (with_reducible refine SH.pt_part ?_)
  | (with_reducible refine SH.it_range1 ?_)
  | (with_reducible refine SH.it_range2 ?_)
  | (with_reducible refine SH.it_seq ?_)
  | ((with_reducible refine SH.ev_var (sv := ?shS) ?shA ?shB ?shC); (case shA => exact rfl); (case shB => (intro z; cases z)))
  | ((with_reducible refine SH.ev_callBD (j := ?shS) ?shA ?shC); (case shA => exact rfl))
  | (with_reducible refine SH.ev_callD ?_)
  | ((with_reducible show ∃ shE1, SH.SV.dat (PySem.PyData.bool _) = SH.SV.dat (PySem.PyData.bool shE1) ∧ _); refine ⟨_, rfl, ?_⟩)
  | ((with_reducible show ∃ shE1, SH.SV.dat (PySem.PyData.int _) = SH.SV.dat (PySem.PyData.int shE1) ∧ _); refine ⟨_, rfl, ?_⟩)
  | ((with_reducible refine And.intro (a := _ ≤ PySem.sizeLine) ?shA ?shC); (case shA => (first | decide | (rw [PySem.sizeLine_eq]; simp only [List.length_cons, List.length_nil, List.length_append, List.length_map]; omega))))
  | ((with_reducible refine SH.asD_own (ds := ?shS) ?shA ?shC); (case shA => exact rfl))
  | ((with_reducible show SH.OpS _ _ (SH.rIxU _) _ _ _ _); first | refine SH.os_uL rfl rfl rfl ?_ | refine SH.os_uT rfl rfl rfl ?_)
  | ((with_reducible show SH.OpS _ _ (SH.rAddU _) _ _ _ _); first | refine SH.os_addI rfl rfl ?_ | (refine SH.os_addS rfl rfl ?_ ?_; rotate_left 1) | (refine SH.os_addL rfl rfl ?_ ?_; rotate_left 1) | (refine SH.os_addT rfl rfl ?_ ?_; rotate_left 1))
  | ((with_reducible show SH.OpS _ _ (SH.rMulX _) _ _ _ _); first | (refine SH.os_mxI rfl rfl ?_ ?_; rotate_left 1) | (refine SH.os_mxS rfl rfl ?_ ?_; rotate_left 1))
  | ((with_reducible show SH.OpS _ _ (SH.rEqU _) _ _ _ _); first | refine SH.os_eqI rfl rfl ?_ | refine SH.os_eqS rfl rfl ?_ | refine SH.os_eqO rfl rfl ?_)
  | ((with_reducible show SH.OpS _ _ (SH.rNeU _) _ _ _ _); first | refine SH.os_neI rfl rfl ?_ | refine SH.os_neS rfl rfl ?_ | refine SH.os_neO rfl rfl ?_)
  | ((with_reducible show SH.OpS _ _ _ _ _ _ _); first | refine SH.os_lt rfl rfl ?_ | refine SH.os_le rfl rfl ?_ | refine SH.os_gt rfl rfl ?_ | refine SH.os_ge rfl rfl ?_ | refine SH.os_sub rfl rfl ?_ | (refine SH.os_mod rfl rfl (by decide) ?_) | (refine SH.os_mod rfl rfl ?_ ?_; rotate_left 1) | (refine SH.os_div rfl rfl (by decide) (by decide) ?_) | (refine SH.os_div rfl rfl ?_ ?_ ?_; rotate_left 2) | (refine SH.os_pow rfl rfl ?_ ?_; rotate_left 1))
  | ((with_reducible show SH.UnS _ _ _ _ _ _); first | refine SH.un_neg' rfl ?_)
  | ((with_reducible show SH.SlS _ _ _ _ _ _ _ _); first | refine SH.sl_L rfl ?_ | refine SH.sl_T rfl ?_ | (refine SH.sl_S rfl ?_ ?_; rotate_left 1) | refine SH.sl_ro rfl ?_)
  | ((with_reducible show SH.CbS _ _ _ _ _ _); first | refine SH.cb_lenL rfl ?_ | refine SH.cb_lenT rfl ?_ | (refine SH.cb_lenS rfl ?_ ?_; rotate_left 1) | refine SH.cb_abs rfl ?_ | refine SH.cb_int rfl ?_ | refine SH.cb_listWL rfl ?_ | refine SH.cb_listWT rfl ?_ | refine SH.cb_tupL rfl ?_ | refine SH.cb_tupT rfl ?_ | refine SH.cb_min2 rfl rfl ?_ | refine SH.cb_max2 rfl rfl ?_ | refine SH.cb_rng1 rfl ?_ | refine SH.cb_rng2 rfl rfl ?_))
local macro_rules | `(tactic| walk_at "ev") => `(tactic| repeat walk_at "ev1")
local macro_rules | `(tactic| walk_at "wk") => `(tactic| (repeat' first | exact trivial | exact Or.inl rfl | (refine And.intro ?_ ?_) | exact Or.inr rfl | (refine Or.inr ⟨rfl, ?_⟩; intro j e; first | (cases e; done) | (cases e; show _ < _; first | decide | simp))))
local macro_rules | `(tactic| walk_at "nrm") => `(tactic| dsimp only [SH.S.fz, SH.SV.fz, List.map, List.set, SH.wipeS, List.cons_append, List.nil_append, List.length_cons, List.length_nil, Nat.beq, List.replicate])
local macro_rules | `(tactic| walk_at "go") => `(tactic| (walk_at "ev"; (try walk_at "nrm"); walk_at "ev"; (try walk_at "nrm"); walk_at "ev"; (try walk_at "nrm")))

/-! wishes -/
namespace LW
open PySem PySem.Spec PyProof.Rows L2 SH
variable [WW]
inductive Wish where
  | ru (yes : Bool) (x : Str) (k : Nat) (m : Int)
  | sp (m : Int) (k e : Nat)
  | st (j : Nat)
def wayS (yes : Bool) : Str := if yes = true then "on" else "off"
def Wish.d : Wish → D
  | .ru y x k m => .tuple [.str (wayS y), .str x, .int (k : Int), .int m]
  | .sp m k e => .tuple [.str "spare", .int m, .int (k : Int), .int (e : Int)]
  | .st j => .tuple [.str "stay", .int (j : Int)]
def wOk (F : Fleet) : Wish → Prop
  | .ru _ x k m => x ∈ F.names ∧ k ≤ F.row.length ∧ 0 ≤ m ∧ m ≤ 100
  | .sp m k e => 0 ≤ m ∧ m ≤ 100 ∧ k ≤ e ∧ e ≤ F.row.length
  | .st j => j < F.row.length
structure WsOk (F : Fleet) (ws : List Wish) : Prop where
  al : ∀ w ∈ ws, wOk F w
  ln : ws.length ≤ 100
/-! ### contracts -/
end LW

namespace LW
open PySem PySem.Spec PyProof.Rows L2 SH
variable [WW]
end LW


namespace LW
open PySem PySem.Spec PyProof.Rows L2 SH
variable [WW]
theorem rangeD_get {lo : Int} {n i : Nat} {d : D} (h : (rangeD lo n)[i]? = some d) : i < n ∧ d = .int (lo + (i : Int)) := by
  refine NoI.keep (fun _ wNoI => ?_) ?_
  simp only [↓ NoI.wrOf wNoI (by
  clear wNoI
  have hi : i < n := by
    have := (List.getElem?_eq_some_iff.mp h).1
    simpa [rangeD] using this
  rw [rangeD, List.getElem?_map, List.getElem?_range hi] at h
  exact ⟨hi, (Option.some.inj h).symm⟩
  )]
  intro _ hNoI
  simpa using (fun (_ : NoI.Sg) => hNoI) [5]
theorem eqv_bool (a b : Bool) : PyData.eqv (.bool a) (.bool b) = (a == b) := by cases a <;> cases b <;> rfl
theorem sh_bool (a : Bool) : SeqAt.shaped (.bool a) = true := by cases a <;> rfl
theorem os_eqBo {K : PySem.W.Frag} {Zc : Addr → Prop} {s : S} {x y : SV} {Φ : SV → S → Prop} {a b : Bool} (h1 : rd s.mem x = some (.bool a)) (h2 : rd s.mem y = some (.bool b)) (k : Φ (.dat (.bool (a == b))) s) : OpS K Zc (rEqU K) x y s Φ := by
  refine os_eq h1 h2 (sh_bool a) (sh_bool b) ?_
  rw [eqv_bool]
  exact k
section
variable {sl : List SV} {mem : Mem} {Φ : SV → S → Prop} {b : Bag} {T j : Nat}
end
section
variable {sl : List SV} {mem : Mem} {Φ : SV → S → Prop} {b : Bag} {T j : Nat}
end
end LW


namespace LW
open PySem PySem.Spec PyProof.Rows L2 SH
variable [WW]
end LW


namespace LW
open PySem PySem.Spec PyProof.Rows L2 SH
variable [WW]
end LW


namespace LW
open PySem PySem.Spec PyProof.Rows L2 SH
variable [WW]
end LW


namespace LW
open PySem PySem.Spec PyProof.Rows L2 SH
variable [WW]
/-! ### what suits, together -/
section
variable {sl : List SV} {mem : Mem} {Φ : SV → S → Prop} {b : Bag} {T j : Nat}
end
end LW

/-! the way between two reduced words -/
namespace LW
open PySem PySem.Spec PyProof.Rows L2 SH
variable [WW]
/-- how many words they begin with together -/
def comL : List Str → List Str → Nat
  | x :: a, y :: b => if x = y then comL a b + 1 else 0
  | _, _ => 0
theorem comL_nil (a : List Str) : comL a [] = 0 := by cases a <;> rfl
theorem comL_cons (x : Str) (a b : List Str) : comL (x :: a) (x :: b) = comL a b + 1 := if_pos rfl
theorem comL_ne {x y : Str} (h : x ≠ y) (a b : List Str) : comL (x :: a) (y :: b) = 0 := if_neg h
theorem comL_le : ∀ a b : List Str, comL a b ≤ a.length ∧ comL a b ≤ b.length
  | [], b => ⟨Nat.zero_le _, Nat.zero_le _⟩
  | x :: a, [] => ⟨Nat.zero_le _, Nat.zero_le _⟩
  | x :: a, y :: b => by
    by_cases e : x = y
    · subst e
      have := comL_le a b
      rw [comL_cons, List.length_cons, List.length_cons]
      omega
    · rw [comL_ne e]; exact ⟨Nat.zero_le _, Nat.zero_le _⟩
theorem comL_comm : ∀ a b : List Str, comL a b = comL b a
  | [], b => (comL_nil b).symm
  | x :: a, [] => rfl
  | x :: a, y :: b => by
    by_cases e : x = y
    · subst e
      rw [comL_cons, comL_cons, comL_comm a b]
    · rw [comL_ne e, comL_ne fun z => e z.symm]
theorem comL_self : ∀ a : List Str, comL a a = a.length
  | [] => rfl
  | x :: a => by rw [comL_cons, comL_self a, List.length_cons]
theorem comL_at : ∀ (a b : List Str) (i : Nat), i < comL a b → a[i]? = b[i]?
  | x :: a, y :: b, i, h => by
    by_cases e : x = y
    · subst e
      rw [comL_cons] at h
      cases i with
      | zero => rfl
      | succ i => simpa using comL_at a b i (by omega)
    · rw [comL_ne e] at h; omega
  | [], _, _, h => absurd h (Nat.not_lt_zero _)
  | _ :: _, [], _, h => absurd h (Nat.not_lt_zero _)
theorem comL_stop : ∀ (a b : List Str), comL a b < a.length → comL a b < b.length → a[comL a b]? ≠ b[comL a b]?
  | x :: a, y :: b, h1, h2 => by
    by_cases e : x = y
    · subst e
      rw [comL_cons] at h1 h2 ⊢
      simpa using comL_stop a b (by simpa using h1) (by simpa using h2)
    · rw [comL_ne e]
      simpa using e
  | [], _, h, _ => absurd h (Nat.not_lt_zero _)
  | _ :: _, [], _, h => absurd h (Nat.not_lt_zero _)
theorem comL_take : ∀ a b : List Str, a.take (comL a b) = b.take (comL a b)
  | [], b => by simp [comL]
  | x :: a, [] => by simp [comL]
  | x :: a, y :: b => by
    by_cases e : x = y
    · subst e
      rw [comL_cons, List.take_succ_cons, List.take_succ_cons, comL_take a b]
    · rw [comL_ne e]; rfl
/-! the reduced word of a walk -/
theorem red_onto : ∀ (b : List Str) (y : Str) (st : List Str), Red (y :: b) → Red st → (∀ x r, st = x :: r → y ≠ x) → Red ((y :: b).reverse ++ st)
  | b, y, st, hb, hs, hn => by
    have h1 : Red (y :: st) := by
      cases st with
      | nil => trivial
      | cons x r => exact ⟨hn x r rfl, hs⟩
    cases b with
    | nil => exact h1
    | cons z b =>
      have := red_onto b z (y :: st) hb.2 h1 fun x r e => by cases e; exact fun q => hb.1 q.symm
      rw [List.reverse_cons, List.append_assoc]
      exact this
  termination_by b => b.length
theorem red_rev {a : List Str} (h : Red a) : Red a.reverse := by
  cases a with
  | nil => trivial
  | cons x a =>
    have := red_onto a x [] h trivial fun _ _ e => by cases e
    rwa [List.append_nil] at this
theorem red_redS (w : List Str) : Red (redS w) := red_rev (stk_red w)
theorem redS_red {w : List Str} (h : Red w) : redS w = w := by
  have := foldl_revd (ws := w) (st := []) (by rw [List.append_nil]; exact red_rev h)
  unfold redS stk
  rw [this, List.append_nil, List.reverse_reverse]
/-! ### the way -/
abbrev Edge := List Str × Str
def edgeD (e : Edge) : D := .tuple [.tuple (dS e.1), .str e.2]
def wayDn (a : List Str) (c : Nat) : List Edge := (List.range (a.length - c)).map fun i => (a.take (a.length - 1 - i), a.getD (a.length - 1 - i) "")
def wayUp (b : List Str) (c : Nat) : List Edge := (List.range (b.length - c)).map fun i => (b.take (c + i), b.getD (c + i) "")
def wayL (a b : List Str) : List Edge := wayDn a (comL a b) ++ wayUp b (comL a b)
theorem wayL_len (a b : List Str) : (wayL a b).length = (a.length - comL a b) + (b.length - comL a b) := by simp [wayL, wayDn, wayUp]
end LW

/-! tolls and prices, ways in the tree -/
namespace LW
open PySem PySem.Spec PyProof.Rows L2 SH
variable [WW]
structure PrOk (F : Fleet) (qs : List Lq) (pr : Lq → Int) : Prop where
  pm : qs.Perm (allL F)
  bd : ∀ q, 0 ≤ pr q ∧ pr q ≤ 1000000
/-! ### contracts -/
def C__law_way : Ct := fun svs m Ψ => ∃ a b : List Str, svs = [.dat (.tuple (dS a)), .dat (.tuple (dS b))] ∧ m = [] ∧ a.length ≤ 100000 ∧ b.length ≤ 100000 ∧ ∀ m' i, m'[i]? = some (some (.list ((wayL a b).map edgeD))) → Ψ (.own i) m'
end LW

namespace LW
open PySem PySem.Spec PyProof.Rows L2 SH
variable [WW]
def t__law_way (K : PySem.W.Frag) : TS :=
  (tSeq (tAsg (tC (.int 0)) (gName 2))
  (tSeq (tWhile (tAnd (tTest (tOp (rI0 fun i j => .bl (decide (i < j))) (tVar 2) (tCB (rMinU K) (tCons (tCB (rLenU K) (tCons (tVar 0) tNil)) (tCons (tCB (rLenU K) (tCons (tVar 1) tNil)) tNil))))) (tTest (tOp (rEqU K) (tOp (rIxU K) (tVar 0) (tVar 2)) (tOp (rIxU K) (tVar 1) (tVar 2)))))
    (tAug 2 (tC (.int 1)) (ipI fun i j => i + j)))
  (tSeq (tAsg (tLc (iRng3 (tCons (tOp (rI0 fun i j => .int (i - j)) (tCB (rLenU K) (tCons (tVar 0) tNil)) (tC (.int 1))) (tCons (tOp (rI0 fun i j => .int (i - j)) (tVar 2) (tC (.int 1))) (tCons (tUn (rU fun i => .int (-i)) (tC (.int 1))) tNil)))) (gName 4) tYes (tTupF (tCons (tSl (rSlU K) (tVar 0) tNoPart (tPart (tVar 4))) (tCons (tOp (rIxU K) (tVar 0) (tVar 4)) tNil))) [4]) (gName 3))
  (tRet (tOp (rAddU K) (tVar 3) (tLc (iRng2 (tCons (tVar 2) (tCons (tCB (rLenU K) (tCons (tVar 1) tNil)) tNil))) (gName 4) tYes (tTupF (tCons (tSl (rSlU K) (tVar 1) tNoPart (tPart (tVar 4))) (tCons (tOp (rIxU K) (tVar 1) (tVar 4)) tNil))) [4]))))))
end LW

end
section

local macro_rules | `(tactic| walk_at "ev1") => `(tactic| first
  | (with_reducible refine SH.ex_seq ?_)
  | (with_reducible refine SH.ev_orV ?_)
  | (with_reducible refine SH.ev_ckw ?_)
  | ((with_reducible show SH.MtS _ _ L2.rExtend _ _ _ _); refine SH.mt_extendS rfl rfl ?_ ?_; rotate_left 1)
  | ((with_reducible show SH.CbS _ _ SH.rTupR _ _ _); refine SH.cb_tupR rfl ?_ ?_ ?_; rotate_left 2)
  | (with_reducible refine SH.ev_notV ?_)
  | (with_reducible refine SH.ev_chain ?_)
  | (with_reducible refine SH.back ?_)
  | ((with_reducible show (true = true → _) ∧ (true = false → _)); refine ⟨fun _ => ?_, fun shh => Bool.noConfusion shh⟩)
  | ((with_reducible show (false = true → _) ∧ (false = false → _)); refine ⟨fun shh => Bool.noConfusion shh, fun _ => ?_⟩)
  | ((with_reducible show ((!true) = true → _) ∧ ((!true) = false → _)); refine ⟨fun shh => Bool.noConfusion shh, fun _ => ?_⟩)
  | ((with_reducible show ((!false) = true → _) ∧ ((!false) = false → _)); refine ⟨fun _ => ?_, fun shh => Bool.noConfusion shh⟩)
  | ((with_reducible show ∃ shE1 shE2, [_, _] = [shE1, shE2] ∧ _); refine ⟨_, _, rfl, ?_⟩)
  | ((with_reducible show ∃ shE1 shE2 shE3, [_, _, _] = [shE1, shE2, shE3] ∧ _); refine ⟨_, _, _, rfl, ?_⟩)
  | ((with_reducible show (∃ shE1, SH.rd _ _ = some (PySem.PyData.list shE1)) ∧ _); refine ⟨⟨_, rfl⟩, ?_⟩)
  | ((with_reducible show SH.MtS _ _ L2.rAppend _ _ _ _); refine SH.mt_appendS rfl ?_ ?_; rotate_left 1)
  | ((with_reducible show ∃ shE1 shE2, SH.rd _ (SH.SV.dat (PySem.PyData.bool _)) = some shE1 ∧ SH.truD shE1 = some shE2 ∧ _); refine ⟨_, _, rfl, rfl, by nofun, ?_⟩)
  | (with_reducible refine SH.ex_if ?_)
  | (with_reducible refine SH.ex_ret ?_)
  | (with_reducible refine SH.ex_drop ?_)
  | (with_reducible refine SH.ex_augS ?_)
  | (with_reducible refine SH.ex_put ?_)
  | ((with_reducible show SH.ExS _ _ _ (L2.tAsg _ (L2.gTup _ _ (L2.gCons (L2.gSub _ _ SH.rSetU) _))) _ _); refine SH.ex_asgT ?_)
  | ((with_reducible show SH.ExS _ _ _ (L2.tAsg _ (L2.gSub _ _ SH.rSetU)) _ _); refine SH.ex_asgT ?_)
  | (with_reducible refine SH.ex_asg ?_)
  | (with_reducible refine SH.ex_next ?_)
  | (with_reducible refine SH.ex_par ?_)
  | (with_reducible refine SH.ex_par3 ?_)
  | (with_reducible refine SH.ex_break ?_)
  | (with_reducible refine SH.ex_cont ?_)
  | (with_reducible refine SH.g_name ?_)
  | (with_reducible refine SH.gt_name ?_)
  | (with_reducible refine SH.gt_cons ?_)
  | (with_reducible refine SH.gt_nil ?_)
  | ((with_reducible refine SH.gt_tup (ds := ?shS) ?shA ?shB ?shD ?shC); (case shA => exact rfl); (case shB => exact rfl); (case shD => exact rfl))
  | (with_reducible refine SH.g_cons ?_)
  | (with_reducible refine SH.g_nil ?_)
  | ((with_reducible refine SH.g_tup (ds := ?shS) ?shA ?shB ?shD ?shC); (case shA => exact rfl); (case shB => exact rfl); (case shD => exact rfl))
  | (with_reducible refine SH.tt_test ?_)
  | (with_reducible refine SH.tt_tru ?_)
  | (with_reducible refine SH.tt_and ?_)
  | (with_reducible refine SH.tt_or ?_)
  | (with_reducible refine SH.tt_not ?_)
  | (with_reducible refine SH.tt_yes ?_)
  | (with_reducible refine SH.ev_isi (by decide) ?_)
  | (with_reducible refine SH.ev_dnew ?_)
  | (with_reducible refine SH.ev_disp1 ?_)
  | (with_reducible refine SH.ev_upper ?_)
  | (with_reducible refine SH.ev_int ?_)
  | (with_reducible refine SH.ev_str ?_)
  | (with_reducible refine SH.ev_bl ?_)
  | (with_reducible refine SH.ev_non ?_)
  | (with_reducible refine SH.ev_op ?_)
  | (with_reducible refine SH.ev_un ?_)
  | (with_reducible refine SH.ev_if ?_)
  | (with_reducible refine SH.ev_sl ?_)
  | (with_reducible refine SH.ev_cb ?_)
  | (with_reducible refine SH.ev_bmL ?_)
  | (with_reducible refine SH.ev_bmL0 ?_)
  | (with_reducible refine SH.ev_tupD ?_)
  | (with_reducible refine SH.ev_lstD ?_)
  | (with_reducible refine SH.ev_andV ?_)
  | (with_reducible refine SH.ev_join ?_)
  | (with_reducible refine SH.asD_dat ?_)
  | (with_reducible refine SH.ad_nil ?_)
  | (with_reducible refine SH.ad_cons ?_)
  | (with_reducible refine SH.ad_star ?_)
  | (with_reducible refine SH.ar_nil ?_)
  | (with_reducible refine SH.ar_cons ?_)
  | (with_reducible refine SH.pt_none ?_)
  | (with_reducible refine SH.pt_part ?_)
  | (with_reducible refine SH.it_range1 ?_)
  | (with_reducible refine SH.it_range2 ?_)
  | (with_reducible refine SH.it_seq ?_)
  | (with_reducible refine SH.it_range3 ?_)
  | (with_reducible refine SH.it_revR2 ?_)
  | ((with_reducible refine SH.ev_var (sv := ?shS) ?shA ?shB ?shC); (case shA => exact rfl); (case shB => (intro z; cases z)))
  | ((with_reducible refine SH.ev_callBD (j := ?shS) ?shA ?shC); (case shA => exact rfl))
  | (with_reducible refine SH.ev_callD ?_)
  | ((with_reducible show ∃ shE1, SH.SV.dat (PySem.PyData.bool _) = SH.SV.dat (PySem.PyData.bool shE1) ∧ _); refine ⟨_, rfl, ?_⟩)
  | ((with_reducible show ∃ shE1, SH.SV.dat (PySem.PyData.int _) = SH.SV.dat (PySem.PyData.int shE1) ∧ _); refine ⟨_, rfl, ?_⟩)
  | ((with_reducible refine And.intro (a := _ ≤ PySem.sizeLine) ?shA ?shC); (case shA => (first | decide | (rw [PySem.sizeLine_eq]; simp only [List.length_cons, List.length_nil, List.length_append, List.length_map]; omega))))
  | ((with_reducible refine SH.asD_own (ds := ?shS) ?shA ?shC); (case shA => exact rfl))
  | ((with_reducible show SH.OpS _ _ (SH.rIxU _) _ _ _ _); first | refine SH.os_uL rfl rfl rfl ?_ | refine SH.os_uT rfl rfl rfl ?_)
  | ((with_reducible show SH.OpS _ _ (SH.rAddU _) _ _ _ _); first | refine SH.os_addI rfl rfl ?_ | (refine SH.os_addS rfl rfl ?_ ?_; rotate_left 1) | (refine SH.os_addL rfl rfl ?_ ?_; rotate_left 1) | (refine SH.os_addT rfl rfl ?_ ?_; rotate_left 1))
  | ((with_reducible show SH.OpS _ _ (SH.rMulX _) _ _ _ _); first | (refine SH.os_mxI rfl rfl ?_ ?_; rotate_left 1) | (refine SH.os_mxS rfl rfl ?_ ?_; rotate_left 1))
  | ((with_reducible show SH.OpS _ _ (SH.rEqU _) _ _ _ _); first | refine SH.os_eqI rfl rfl ?_ | refine SH.os_eqS rfl rfl ?_ | refine SH.os_eqO rfl rfl ?_)
  | ((with_reducible show SH.OpS _ _ (SH.rNeU _) _ _ _ _); first | refine SH.os_neI rfl rfl ?_ | refine SH.os_neS rfl rfl ?_ | refine SH.os_neO rfl rfl ?_)
  | ((with_reducible show SH.OpS _ _ _ _ _ _ _); first | refine SH.os_lt rfl rfl ?_ | refine SH.os_le rfl rfl ?_ | refine SH.os_gt rfl rfl ?_ | refine SH.os_ge rfl rfl ?_ | refine SH.os_sub rfl rfl ?_ | (refine SH.os_mod rfl rfl (by decide) ?_) | (refine SH.os_mod rfl rfl ?_ ?_; rotate_left 1) | (refine SH.os_div rfl rfl (by decide) (by decide) ?_) | (refine SH.os_div rfl rfl ?_ ?_ ?_; rotate_left 2) | (refine SH.os_pow rfl rfl ?_ ?_; rotate_left 1))
  | ((with_reducible show SH.UnS _ _ _ _ _ _); first | refine SH.un_neg' rfl ?_)
  | ((with_reducible show SH.SlS _ _ _ _ _ _ _ _); first | refine SH.sl_L rfl ?_ | refine SH.sl_T rfl ?_ | (refine SH.sl_S rfl ?_ ?_; rotate_left 1) | refine SH.sl_ro rfl ?_)
  | ((with_reducible show SH.CbS _ _ _ _ _ _); first | refine SH.cb_lenL rfl ?_ | refine SH.cb_lenT rfl ?_ | (refine SH.cb_lenS rfl ?_ ?_; rotate_left 1) | refine SH.cb_abs rfl ?_ | refine SH.cb_int rfl ?_ | refine SH.cb_listWL rfl ?_ | refine SH.cb_listWT rfl ?_ | refine SH.cb_tupL rfl ?_ | refine SH.cb_tupT rfl ?_ | refine SH.cb_min2 rfl rfl ?_ | refine SH.cb_max2 rfl rfl ?_ | refine SH.cb_rng1 rfl ?_ | refine SH.cb_rng2 rfl rfl ?_))
local macro_rules | `(tactic| walk_at "ev") => `(tactic| repeat walk_at "ev1")
local macro_rules | `(tactic| walk_at "wk") => `(tactic| (repeat' first | exact trivial | exact Or.inl rfl | (refine And.intro ?_ ?_) | exact Or.inr rfl | (refine Or.inr ⟨rfl, ?_⟩; intro j e; first | (cases e; done) | (cases e; show _ < _; first | decide | simp))))
local macro_rules | `(tactic| walk_at "nrm") => `(tactic| dsimp only [SH.S.fz, SH.SV.fz, List.map, List.set, SH.wipeS, List.cons_append, List.nil_append, List.length_cons, List.length_nil, Nat.beq, List.replicate])
local macro_rules | `(tactic| walk_at "go") => `(tactic| (walk_at "ev"; (try walk_at "nrm"); walk_at "ev"; (try walk_at "nrm"); walk_at "ev"; (try walk_at "nrm")))


namespace LW
open PySem PySem.Spec PyProof.Rows L2 SH
variable [WW]
theorem dS_atN {a : List Str} {c : Nat} (h : c < a.length) : atI (dS a) (c : Int) = some (.str (a.getD c "")) :=
  atI_nat (by rw [dS, List.getElem?_map, List.getElem?_eq_getElem h, List.getD_eq_getElem?_getD, List.getElem?_eq_getElem h]; rfl)
theorem rangeC_get {lo : Int} {n i : Nat} {d : D} (h : (rangeC lo (-1) n)[i]? = some d) : i < n ∧ d = .int (lo - (i : Int)) := by
  refine NoI.keep (fun _ wNoI => ?_) ?_
  simp only [↓ NoI.wrOf wNoI (by
  clear wNoI
  have hi : i < n := by
    have := (List.getElem?_eq_some_iff.mp h).1
    simpa [rangeC] using this
  rw [rangeC, List.getElem?_map, List.getElem?_range hi] at h
  refine ⟨hi, (Option.some.inj h).symm.trans ?_⟩
  show PyData.int (lo + (i : Int) * (-1)) = _
  rw [show lo + (i : Int) * (-1) = lo - (i : Int) by omega]
  )]
  intro _ hNoI
  simpa using (fun (_ : NoI.Sg) => hNoI) [5]
theorem rangeC_len (lo c : Int) (n : Nat) : (rangeC lo c n).length = n := by simp [rangeC]
theorem dS_take (a : List Str) (n : Nat) : (dS a).take n = dS (a.take n) := by simp [dS, List.map_take]
theorem cut_tS (a : List Str) (n : Nat) : SH.cutD (dS a) none (some (n : Int)) = dS (a.take n) := by rw [cut_to, dS_take]
theorem wayDn_len (a : List Str) (c : Nat) : (wayDn a c).length = a.length - c := by simp [wayDn]
theorem wayUp_len (a : List Str) (c : Nat) : (wayUp a c).length = a.length - c := by simp [wayUp]
theorem wp__law_way {K : PySem.W.Frag} : ∀ Zc svs m Ψ, C__law_way svs m Ψ → ExS K Zc m.length (t__law_way K) ⟨svs ++ List.replicate (5 - svs.length) .un, m⟩ (retE Ψ) := by
  refine NoI.keep (fun _ wNoI => ?_) ?_
  simp only [↓ NoI.wrOf wNoI (by
  clear wNoI
  rintro Zc _ _ Ψ ⟨a, b, rfl, rfl, la, lb, k⟩
  unfold t__law_way
  show ExS _ _ _ _ ⟨[.dat (.tuple (dS a)), .dat (.tuple (dS b)), .un, .un, .un], []⟩ _
  obtain ⟨c1, c2⟩ := comL_le a b
  walk_at "go"
  refine ex_cutS (fun s => s = ⟨[.dat (.tuple (dS a)), .dat (.tuple (dS b)), .dat (.int (comL a b : Int)), .un, .un], []⟩) ?_ ?_
  · refine ex_while (fun k s => ∃ c : Nat, k = comL a b - c ∧ c ≤ comL a b ∧ s = ⟨[.dat (.tuple (dS a)), .dat (.tuple (dS b)), .dat (.int (c : Int)), .un, .un], []⟩) ⟨_, To.of _ ⟨0, rfl, Nat.zero_le _, rfl⟩ (by walk_at "wk") (by walk_at "wk") (by simp)⟩ ?_
    rintro _ _ ⟨c, rfl, hc, rfl⟩ _
    walk_at "go"
    rw [dS_len, dS_len]
    refine ⟨fun h => ?_, fun h => ?_⟩
    · have h : c < a.length ∧ c < b.length := by have := of_decide_eq_true h; omega
      walk_at "go"
      refine os_uT rfl rfl (dS_atN h.1) ?_
      walk_at "go"
      refine os_uT rfl rfl (dS_atN h.2) ?_
      walk_at "go"
      have e1 : a[c]? = some (a.getD c "") := by rw [List.getD_eq_getElem?_getD, List.getElem?_eq_getElem h.1]; rfl
      have e2 : b[c]? = some (b.getD c "") := by rw [List.getD_eq_getElem?_getD, List.getElem?_eq_getElem h.2]; rfl
      refine ⟨fun h2 => ?_, fun h2 => ?_⟩
      · have h2 := of_decide_eq_true h2
        have hlt : c < comL a b := by
          rcases Nat.lt_or_ge c (comL a b) with z | z
          · exact z
          · have e : c = comL a b := by omega
            refine absurd ?_ (comL_stop a b (e ▸ h.1) (e ▸ h.2))
            rw [← e, e1, e2, h2]
        refine ex_aug rfl ?_
        walk_at "go"
        refine ⟨_, rfl, ?_⟩
        rw [show (c : Int) + 1 = ((c + 1 : Nat) : Int) by omega]
        exact ⟨comL a b - (c + 1), by omega, To.of _ ⟨c + 1, rfl, by omega, rfl⟩ (by walk_at "wk") (by walk_at "wk") (by simp)⟩
      · have h2 := of_decide_eq_false h2
        have e : c = comL a b := by
          rcases Nat.lt_or_ge c (comL a b) with z | z
          · have := comL_at a b c z
            rw [e1, e2] at this
            exact absurd (Option.some.inj this) h2
          · omega
        rw [e]
        exact To.of _ rfl (by walk_at "wk") (by walk_at "wk") (by simp)
    · have e : c = comL a b := by have := of_decide_eq_false h; omega
      rw [e]
      walk_at "go"
      exact To.of _ rfl (by walk_at "wk") (by walk_at "wk") (by simp)
  rintro _ rfl _
  refine ex_cut (fun s => s = ⟨[.dat (.tuple (dS a)), .dat (.tuple (dS b)), .dat (.int (comL a b : Int)), .own 0, .un], [some (.list ((wayDn a (comL a b)).map edgeD))]⟩) ?_ ?_
  · walk_at "go"
    refine ev_lcP (it_range3 ?_)
    walk_at "go"
    rw [dS_len]
    refine ⟨_, _, rfl, by omega, (wayDn a (comL a b)).map edgeD, by rw [List.length_map, wayDn_len, rangeC_len]; omega, by rw [List.length_map, wayDn_len]; omega, ?_, ?_⟩
    · rintro i d e m' hd he rfl
      obtain ⟨hi, rfl⟩ := rangeC_get hd
      have hi : i < a.length - comL a b := by omega
      rw [List.getElem?_map, wayDn, List.getElem?_map, List.getElem?_range hi] at he
      cases he
      rw [show (a.length : Int) - 1 - (i : Int) = ((a.length - 1 - i : Nat) : Int) by omega]
      walk_at "go"
      refine os_uT rfl rfl (dS_atN (by omega)) ?_
      walk_at "go"
      refine ⟨by rw [cut_tS]; rfl, Wk.of (by walk_at "wk") (by walk_at "wk")⟩
    · walk_at "go"
      exact To.of _ rfl (by walk_at "wk") (by walk_at "wk") (by simp)
  rintro _ rfl _
  walk_at "go"
  refine ev_lcP (it_range2 ?_)
  walk_at "go"
  rw [dS_len]
  refine ⟨_, _, rfl, by omega, (wayUp b (comL a b)).map edgeD, by rw [List.length_map, wayUp_len, rangeD_len]; omega, by rw [List.length_map, wayUp_len]; omega, ?_, ?_⟩
  · rintro i d e m' hd he rfl
    obtain ⟨hi, rfl⟩ := rangeD_get hd
    have hi : i < b.length - comL a b := by omega
    rw [List.getElem?_map, wayUp, List.getElem?_map, List.getElem?_range hi] at he
    cases he
    rw [show (comL a b : Int) + (i : Int) = ((comL a b + i : Nat) : Int) by omega]
    walk_at "go"
    refine os_uT rfl rfl (dS_atN (by omega)) ?_
    walk_at "go"
    refine ⟨by rw [cut_tS]; rfl, Wk.of (by walk_at "wk") (by walk_at "wk")⟩
  · walk_at "go"
    · have e := k [some (.list ((wayDn a (comL a b)).map edgeD)), some (.list ((wayUp b (comL a b)).map edgeD)), some (.list ((wayL a b).map edgeD))] 2 rfl
      unfold wayL at e
      rw [List.map_append] at e
      exact e
    · exact small (by rw [List.length_map, List.length_map, wayDn_len, wayUp_len]; omega)
  )]
  intro _ hNoI
  simpa using (fun (_ : NoI.Sg) => hNoI) [5]
end LW


namespace LW
open PySem PySem.Spec PyProof.Rows L2 SH
variable [WW]
section
variable {sl : List SV} {mem : Mem} {Φ : SV → S → Prop} {b : Bag} {T j : Nat}
end
end LW


namespace LW
open PySem PySem.Spec PyProof.Rows L2 SH
variable [WW]
/-! ### what is held -/
end LW


namespace LW
open PySem PySem.Spec PyProof.Rows L2 SH
variable [WW]
/-! ### walks of edits -/
/-! ### prices, drawn -/
end LW


namespace LW
open PySem PySem.Spec PyProof.Rows L2 SH
variable [WW]
section
variable {sl : List SV} {mem : Mem} {Φ : SV → S → Prop} {b : Bag} {T j : Nat}
end
end LW

/-! an edit moves one lease: the states, the vertices, the tables behind it -/
namespace LW
open PySem PySem.Spec PyProof.Rows L2 SH
section
variable [WW]
variable {F : Fleet} {p : List Int} {q : Str × Nat}
/-- what is known of a lease that may be edited -/
structure EdQ (F : Fleet) (p : List Int) (q : Str × Nat) : Prop where
  al : q ∈ allL F
  n0 : q.2 ≠ 0
  st : stillB p q.2 (endOf F q.1 q.2) = true
theorem EdQ.x (h : EdQ F p q) (hF : FOk F) : q.1 ∈ F.names := (allL_ok hF h.al).1
theorem EdQ.len (h : EdQ F p q) (hF : FOk F) : q.2 ≤ F.row.length := (allL_ok hF h.al).2
theorem EdQ.row (h : EdQ F p q) (hF : FOk F) : F.row[q.2 - 1]? = some q.1 := (lease_cases h.al).resolve_left h.n0
end
end LW

/-! tables of machines, an edit moves one lease -/
namespace LW
open PySem PySem.Spec PyProof.Rows L2 SH
variable [WW]
/-! ### contracts -/
end LW

namespace LW
open PySem PySem.Spec PyProof.Rows L2 SH
variable [WW]
end LW

end
section

local macro_rules | `(tactic| walk_at "ev1") => `(tactic| first
  | (with_reducible refine SH.ex_seq ?_)
  | (with_reducible refine SH.ev_orV ?_)
  | (with_reducible refine SH.ev_ckw ?_)
  | ((with_reducible show SH.MtS _ _ L2.rExtend _ _ _ _); refine SH.mt_extendS rfl rfl ?_ ?_; rotate_left 1)
  | ((with_reducible show SH.CbS _ _ SH.rTupR _ _ _); refine SH.cb_tupR rfl ?_ ?_ ?_; rotate_left 2)
  | (with_reducible refine SH.ev_notV ?_)
  | (with_reducible refine SH.ev_chain ?_)
  | (with_reducible refine SH.back ?_)
  | ((with_reducible show (true = true → _) ∧ (true = false → _)); refine ⟨fun _ => ?_, fun shh => Bool.noConfusion shh⟩)
  | ((with_reducible show (false = true → _) ∧ (false = false → _)); refine ⟨fun shh => Bool.noConfusion shh, fun _ => ?_⟩)
  | ((with_reducible show ((!true) = true → _) ∧ ((!true) = false → _)); refine ⟨fun shh => Bool.noConfusion shh, fun _ => ?_⟩)
  | ((with_reducible show ((!false) = true → _) ∧ ((!false) = false → _)); refine ⟨fun _ => ?_, fun shh => Bool.noConfusion shh⟩)
  | ((with_reducible show ∃ shE1 shE2, [_, _] = [shE1, shE2] ∧ _); refine ⟨_, _, rfl, ?_⟩)
  | ((with_reducible show ∃ shE1 shE2 shE3, [_, _, _] = [shE1, shE2, shE3] ∧ _); refine ⟨_, _, _, rfl, ?_⟩)
  | ((with_reducible show (∃ shE1, SH.rd _ _ = some (PySem.PyData.list shE1)) ∧ _); refine ⟨⟨_, rfl⟩, ?_⟩)
  | ((with_reducible show SH.MtS _ _ L2.rAppend _ _ _ _); refine SH.mt_appendS rfl ?_ ?_; rotate_left 1)
  | ((with_reducible show ∃ shE1 shE2, SH.rd _ (SH.SV.dat (PySem.PyData.bool _)) = some shE1 ∧ SH.truD shE1 = some shE2 ∧ _); refine ⟨_, _, rfl, rfl, by nofun, ?_⟩)
  | (with_reducible refine SH.ex_if ?_)
  | (with_reducible refine SH.ex_ret ?_)
  | (with_reducible refine SH.ex_drop ?_)
  | (with_reducible refine SH.ex_augS ?_)
  | (with_reducible refine SH.ex_put ?_)
  | ((with_reducible show SH.ExS _ _ _ (L2.tAsg _ (L2.gTup _ _ (L2.gCons (L2.gSub _ _ SH.rSetU) _))) _ _); refine SH.ex_asgT ?_)
  | ((with_reducible show SH.ExS _ _ _ (L2.tAsg _ (L2.gSub _ _ SH.rSetU)) _ _); refine SH.ex_asgT ?_)
  | (with_reducible refine SH.ex_asg ?_)
  | (with_reducible refine SH.ex_next ?_)
  | (with_reducible refine SH.ex_par ?_)
  | (with_reducible refine SH.ex_par3 ?_)
  | (with_reducible refine SH.ex_break ?_)
  | (with_reducible refine SH.ex_cont ?_)
  | (with_reducible refine SH.g_name ?_)
  | (with_reducible refine SH.gt_name ?_)
  | (with_reducible refine SH.gt_cons ?_)
  | (with_reducible refine SH.gt_nil ?_)
  | ((with_reducible refine SH.gt_tup (ds := ?shS) ?shA ?shB ?shD ?shC); (case shA => exact rfl); (case shB => exact rfl); (case shD => exact rfl))
  | (with_reducible refine SH.g_cons ?_)
  | (with_reducible refine SH.g_nil ?_)
  | ((with_reducible refine SH.g_tup (ds := ?shS) ?shA ?shB ?shD ?shC); (case shA => exact rfl); (case shB => exact rfl); (case shD => exact rfl))
  | (with_reducible refine SH.tt_test ?_)
  | (with_reducible refine SH.tt_tru ?_)
  | (with_reducible refine SH.tt_and ?_)
  | (with_reducible refine SH.tt_or ?_)
  | (with_reducible refine SH.tt_not ?_)
  | (with_reducible refine SH.tt_yes ?_)
  | (with_reducible refine SH.ev_isi (by decide) ?_)
  | (with_reducible refine SH.ev_dnew ?_)
  | (with_reducible refine SH.ev_disp1 ?_)
  | (with_reducible refine SH.ev_upper ?_)
  | (with_reducible refine SH.ev_int ?_)
  | (with_reducible refine SH.ev_str ?_)
  | (with_reducible refine SH.ev_bl ?_)
  | (with_reducible refine SH.ev_non ?_)
  | (with_reducible refine SH.ev_op ?_)
  | (with_reducible refine SH.ev_un ?_)
  | (with_reducible refine SH.ev_if ?_)
  | (with_reducible refine SH.ev_sl ?_)
  | (with_reducible refine SH.ev_cb ?_)
  | (with_reducible refine SH.ev_bmL ?_)
  | (with_reducible refine SH.ev_bmL0 ?_)
  | (with_reducible refine SH.ev_tupD ?_)
  | (with_reducible refine SH.ev_lstD ?_)
  | (with_reducible refine SH.ev_andV ?_)
  | (with_reducible refine SH.ev_join ?_)
  | (with_reducible refine SH.asD_dat ?_)
  | (with_reducible refine SH.ad_nil ?_)
  | (with_reducible refine SH.ad_cons ?_)
  | (with_reducible refine SH.ad_star ?_)
  | (with_reducible refine SH.ar_nil ?_)
  | (with_reducible refine SH.ar_cons ?_)
  | (with_reducible refine SH.pt_none ?_)
  | (with_reducible refine SH.pt_part ?_)
  | (with_reducible refine SH.it_range1 ?_)
  | (with_reducible refine SH.it_range2 ?_)
  | (with_reducible refine SH.it_seq ?_)
  | (with_reducible refine SH.it_walk ?_)
  | (with_reducible refine SH.it_zip ?_)
  | (with_reducible refine SH.it_itemsD ?_)
  | (with_reducible refine SH.it_valsD ?_)
  | (with_reducible refine SH.ev_lenSet ?_)
  | (with_reducible refine SH.it_range3 ?_)
  | (with_reducible refine SH.it_revR2 ?_)
  | (with_reducible refine SH.it_revR1 ?_)
  | (with_reducible refine SH.ev_dgX ?_)
  | ((with_reducible refine SH.ev_var (sv := ?shS) ?shA ?shB ?shC); (case shA => exact rfl); (case shB => (intro z; cases z)))
  | ((with_reducible refine SH.ev_callBD (j := ?shS) ?shA ?shC); (case shA => exact rfl))
  | (with_reducible refine SH.ev_callD ?_)
  | ((with_reducible show ∃ shE1, SH.SV.dat (PySem.PyData.bool _) = SH.SV.dat (PySem.PyData.bool shE1) ∧ _); refine ⟨_, rfl, ?_⟩)
  | ((with_reducible show ∃ shE1, SH.SV.dat (PySem.PyData.int _) = SH.SV.dat (PySem.PyData.int shE1) ∧ _); refine ⟨_, rfl, ?_⟩)
  | ((with_reducible refine And.intro (a := _ ≤ PySem.sizeLine) ?shA ?shC); (case shA => (first | decide | (rw [PySem.sizeLine_eq]; simp only [List.length_cons, List.length_nil, List.length_append, List.length_map]; omega))))
  | ((with_reducible refine SH.asD_own (ds := ?shS) ?shA ?shC); (case shA => exact rfl))
  | ((with_reducible show SH.OpS _ _ (SH.rIxU _) _ _ _ _); first | refine SH.os_uL rfl rfl rfl ?_ | refine SH.os_uT rfl rfl rfl ?_)
  | ((with_reducible show SH.OpS _ _ (SH.rAddU _) _ _ _ _); first | refine SH.os_addI rfl rfl ?_ | (refine SH.os_addS rfl rfl ?_ ?_; rotate_left 1) | (refine SH.os_addL rfl rfl ?_ ?_; rotate_left 1) | (refine SH.os_addT rfl rfl ?_ ?_; rotate_left 1))
  | ((with_reducible show SH.OpS _ _ (SH.rMulX _) _ _ _ _); first | (refine SH.os_mxI rfl rfl ?_ ?_; rotate_left 1) | (refine SH.os_mxS rfl rfl ?_ ?_; rotate_left 1))
  | ((with_reducible show SH.OpS _ _ (SH.rEqU _) _ _ _ _); first | refine SH.os_eqI rfl rfl ?_ | refine SH.os_eqS rfl rfl ?_ | refine SH.os_eqO rfl rfl ?_)
  | ((with_reducible show SH.OpS _ _ (SH.rNeU _) _ _ _ _); first | refine SH.os_neI rfl rfl ?_ | refine SH.os_neS rfl rfl ?_ | refine SH.os_neO rfl rfl ?_)
  | ((with_reducible show SH.OpS _ _ _ _ _ _ _); first | refine SH.os_lt rfl rfl ?_ | refine SH.os_le rfl rfl ?_ | refine SH.os_gt rfl rfl ?_ | refine SH.os_ge rfl rfl ?_ | refine SH.os_sub rfl rfl ?_ | (refine SH.os_mod rfl rfl (by decide) ?_) | (refine SH.os_mod rfl rfl ?_ ?_; rotate_left 1) | (refine SH.os_div rfl rfl (by decide) (by decide) ?_) | (refine SH.os_div rfl rfl ?_ ?_ ?_; rotate_left 2) | (refine SH.os_pow rfl rfl ?_ ?_; rotate_left 1))
  | ((with_reducible show SH.UnS _ _ _ _ _ _); first | refine SH.un_neg' rfl ?_)
  | ((with_reducible show SH.SlS _ _ _ _ _ _ _ _); first | refine SH.sl_L rfl ?_ | refine SH.sl_T rfl ?_ | (refine SH.sl_S rfl ?_ ?_; rotate_left 1) | refine SH.sl_ro rfl ?_)
  | ((with_reducible show SH.CbS _ _ (SH.rLenX _) _ _ _); refine SH.cb_lx rfl rfl ?_)
  | ((with_reducible show SH.CbS _ _ _ _ _ _); first | refine SH.cb_lenL rfl ?_ | refine SH.cb_lenT rfl ?_ | (refine SH.cb_lenS rfl ?_ ?_; rotate_left 1) | refine SH.cb_abs rfl ?_ | refine SH.cb_int rfl ?_ | refine SH.cb_listWL rfl ?_ | refine SH.cb_listWT rfl ?_ | refine SH.cb_tupL rfl ?_ | refine SH.cb_tupT rfl ?_ | refine SH.cb_min2 rfl rfl ?_ | refine SH.cb_max2 rfl rfl ?_ | refine SH.cb_rng1 rfl ?_ | refine SH.cb_rng2 rfl rfl ?_))
local macro_rules | `(tactic| walk_at "ev") => `(tactic| repeat walk_at "ev1")
local macro_rules | `(tactic| walk_at "wk") => `(tactic| (repeat' first | exact trivial | exact Or.inl rfl | (refine And.intro ?_ ?_) | exact Or.inr rfl | (refine Or.inr ⟨rfl, ?_⟩; intro j e; first | (cases e; done) | (cases e; show _ < _; first | decide | simp))))
local macro_rules | `(tactic| walk_at "nrm") => `(tactic| dsimp only [SH.S.fz, SH.SV.fz, List.map, List.set, SH.wipeS, List.cons_append, List.nil_append, List.length_cons, List.length_nil, Nat.beq, List.replicate])
local macro_rules | `(tactic| walk_at "go") => `(tactic| (walk_at "ev"; (try walk_at "nrm"); walk_at "ev"; (try walk_at "nrm"); walk_at "ev"; (try walk_at "nrm")))


namespace LW
open PySem PySem.Spec PyProof.Rows L2 SH
variable [WW]
section
variable {sl : List SV} {mem : Mem} {Φ : SV → S → Prop}
end
section
variable {K : PySem.W.Frag} {Zc : Addr → Prop} {s : S} {Φ : SV → S → Prop} {x y : SV}
end
section
variable {sl : List SV} {mem : Mem} {Φ : SV → S → Prop} {F : Fleet} {p : List Int}
end
end LW


namespace LW
open PySem PySem.Spec PyProof.Rows L2 SH
variable [WW]
section
variable {sl : List SV} {mem : Mem} {Φ : SV → S → Prop} {F : Fleet} {p : List Int}
theorem use_lred17 {ws : List Str} (hn : NamesOk ws) (hl : ws.length ≤ 1000000) (k : Φ (.dat (.tuple (dS (redS ws)))) ⟨sl, mem⟩) : C__law_reduced ([.tuple (dS ws)].map SV.dat) [] (backP ⟨sl, mem⟩ Φ) := ⟨ws, _, rfl, rfl, rfl, hn, hl, fun m' => k⟩
end
end LW


namespace LW
open PySem PySem.Spec PyProof.Rows L2 SH
variable [WW]
section
variable {sl : List SV} {mem : Mem} {Φ : SV → S → Prop} {F : Fleet} {p : List Int}
end
end LW

/-! ways, how far apart plans are; fleets that are cut, exchanges -/
namespace LW
open PySem PySem.Spec PyProof.Rows L2 SH
variable [WW]
/-- the restarts are cut -/
def Fleet.cut (F : Fleet) (n : Nat) : Fleet := ⟨F.names, F.places, F.row.take n⟩
/-! ### contracts -/
def C_common_length : Ct := fun svs m Ψ => ∃ a b : List Str, svs = [.dat (.tuple (dS a)), .dat (.tuple (dS b))] ∧ m = [] ∧ a.length ≤ 100000 ∧ b.length ≤ 100000 ∧ ∀ m', Ψ (.dat (.int (comL a b : Int))) m'
end LW

namespace LW
open PySem PySem.Spec PyProof.Rows L2 SH
variable [WW]
def t_common_length (K : PySem.W.Frag) : TS :=
  (tSeq (tAsg (tC (.int 0)) (gName 2))
  (tSeq (tWhile (tAnd (tTest (tOp (rI0 fun i j => .bl (decide (i < j))) (tVar 2) (tCB (rMinU K) (tCons (tCB (rLenU K) (tCons (tVar 0) tNil)) (tCons (tCB (rLenU K) (tCons (tVar 1) tNil)) tNil))))) (tTest (tOp (rEqU K) (tOp (rIxU K) (tVar 0) (tVar 2)) (tOp (rIxU K) (tVar 1) (tVar 2)))))
    (tAug 2 (tC (.int 1)) (ipI fun i j => i + j)))
  (tRet (tVar 2))))
end LW


namespace LW
open PySem PySem.Spec PyProof.Rows L2 SH
variable [WW]
theorem wp_common_length {K : PySem.W.Frag} : ∀ Zc svs m Ψ, C_common_length svs m Ψ → ExS K Zc m.length (t_common_length K) ⟨svs ++ List.replicate (3 - svs.length) .un, m⟩ (retE Ψ) := by
  refine NoI.keep (fun _ wNoI => ?_) ?_
  simp only [↓ NoI.wrOf wNoI (by
  clear wNoI
  rintro Zc _ _ Ψ ⟨a, b, rfl, rfl, la, lb, k⟩
  unfold t_common_length
  show ExS _ _ _ _ ⟨[.dat (.tuple (dS a)), .dat (.tuple (dS b)), .un], []⟩ _
  obtain ⟨c1, c2⟩ := comL_le a b
  walk_at "go"
  refine ex_cutS (fun s => s = ⟨[.dat (.tuple (dS a)), .dat (.tuple (dS b)), .dat (.int (comL a b : Int))], []⟩) ?_ ?_
  · refine ex_while (fun k s => ∃ c : Nat, k = comL a b - c ∧ c ≤ comL a b ∧ s = ⟨[.dat (.tuple (dS a)), .dat (.tuple (dS b)), .dat (.int (c : Int))], []⟩) ⟨_, To.of _ ⟨0, rfl, Nat.zero_le _, rfl⟩ (by walk_at "wk") (by walk_at "wk") (by simp)⟩ ?_
    rintro _ _ ⟨c, rfl, hc, rfl⟩ _
    walk_at "go"
    rw [dS_len, dS_len]
    refine ⟨fun h => ?_, fun h => ?_⟩
    · have h : c < a.length ∧ c < b.length := by have := of_decide_eq_true h; omega
      walk_at "go"
      refine os_uT rfl rfl (dS_atN h.1) ?_
      walk_at "go"
      refine os_uT rfl rfl (dS_atN h.2) ?_
      walk_at "go"
      have e1 : a[c]? = some (a.getD c "") := by rw [List.getD_eq_getElem?_getD, List.getElem?_eq_getElem h.1]; rfl
      have e2 : b[c]? = some (b.getD c "") := by rw [List.getD_eq_getElem?_getD, List.getElem?_eq_getElem h.2]; rfl
      refine ⟨fun h2 => ?_, fun h2 => ?_⟩
      · have h2 := of_decide_eq_true h2
        have hlt : c < comL a b := by
          rcases Nat.lt_or_ge c (comL a b) with z | z
          · exact z
          · have e : c = comL a b := by omega
            refine absurd ?_ (comL_stop a b (e ▸ h.1) (e ▸ h.2))
            rw [← e, e1, e2, h2]
        refine ex_aug rfl ?_
        walk_at "go"
        refine ⟨_, rfl, ?_⟩
        rw [show (c : Int) + 1 = ((c + 1 : Nat) : Int) by omega]
        exact ⟨comL a b - (c + 1), by omega, To.of _ ⟨c + 1, rfl, by omega, rfl⟩ (by walk_at "wk") (by walk_at "wk") (by simp)⟩
      · have h2 := of_decide_eq_false h2
        have e : c = comL a b := by
          rcases Nat.lt_or_ge c (comL a b) with z | z
          · have := comL_at a b c z
            rw [e1, e2] at this
            exact absurd (Option.some.inj this) h2
          · omega
        rw [e]
        exact To.of _ rfl (by walk_at "wk") (by walk_at "wk") (by simp)
    · have e : c = comL a b := by have := of_decide_eq_false h; omega
      rw [e]
      walk_at "go"
      exact To.of _ rfl (by walk_at "wk") (by walk_at "wk") (by simp)
  rintro _ rfl _
  walk_at "go"
  exact k _
  )]
  intro _ hNoI
  simpa using (fun (_ : NoI.Sg) => hNoI) [5]
section
variable {sl : List SV} {mem : Mem} {Φ : SV → S → Prop} {b : Bag} {T j : Nat}
theorem use_comL {a b : List Str} (la : a.length ≤ 100000) (lb : b.length ≤ 100000) (k : Φ (.dat (.int (comL a b : Int))) ⟨sl, mem⟩) : C_common_length ([.tuple (dS a), .tuple (dS b)].map SV.dat) [] (backP ⟨sl, mem⟩ Φ) := ⟨a, b, rfl, rfl, la, lb, fun m' => k⟩
end
end LW


namespace LW
open PySem PySem.Spec PyProof.Rows L2 SH
variable [WW]
end LW


namespace LW
open PySem PySem.Spec PyProof.Rows L2 SH
variable [WW]
section
variable {sl : List SV} {mem : Mem} {Φ : SV → S → Prop}
end
end LW

/-! how far apart, lease by lease -/
namespace LW
open PySem PySem.Spec PyProof.Rows L2 SH
variable [WW]
end LW

namespace LW
open PySem PySem.Spec PyProof.Rows L2 SH
variable [WW]
end LW


namespace LW
open PySem PySem.Spec PyProof.Rows L2 SH
variable [WW]
end LW

/-! edges of the tree, near and far -/
namespace LW
open PySem PySem.Spec PyProof.Rows L2 SH
variable [WW]
def begB (a b : List Str) : Bool := decide (a.take b.length = b)
/-- the longer end of an edge -/
def upE (e : Edge) : List Str := e.1 ++ [e.2]
def EdgeOk (e : Edge) : Prop := NamesOk e.1 ∧ NameOk e.2 ∧ e.1.length ≤ 1000
def WoOk (a : List Str) : Prop := NamesOk a ∧ a.length ≤ 1000
def C_begins_with : Ct := fun svs m Ψ => ∃ a b : List Str, svs = [.dat (.tuple (dS a)), .dat (.tuple (dS b))] ∧ m = [] ∧ WoOk a ∧ NamesOk b ∧ b.length ≤ 2000 ∧ ∀ m', Ψ (.dat (.bool (begB a b))) m'
def C_longer_end : Ct := fun svs m Ψ => ∃ e : Edge, svs = [.dat (edgeD e)] ∧ m = [] ∧ EdgeOk e ∧ ∀ m', Ψ (.dat (.tuple (dS (upE e)))) m'
end LW

namespace LW
open PySem PySem.Spec PyProof.Rows L2 SH
variable [WW]
def t_begins_with (K : PySem.W.Frag) : TS :=
  (tRet (tOp (rEqU K) (tSl (rSlU K) (tVar 0) tNoPart (tPart (tCB (rLenU K) (tCons (tVar 1) tNil)))) (tVar 1)))
def t_longer_end (K : PySem.W.Frag) : TS :=
  (tSeq (tAsg (tVar 0) (gTup K 2 (gCons (gName 1) (gCons (gName 2) gNil))))
  (tRet (tTupF (StX.tStar K (tVar 1) (tCons (tVar 2) tNil)))))
end LW


namespace LW
open PySem PySem.Spec PyProof.Rows L2 SH
variable [WW]
theorem wp_begins_with {K : PySem.W.Frag} : ∀ Zc svs m Ψ, C_begins_with svs m Ψ → ExS K Zc m.length (t_begins_with K) ⟨svs ++ List.replicate (2 - svs.length) .un, m⟩ (retE Ψ) := by
  refine NoI.keep (fun _ wNoI => ?_) ?_
  simp only [↓ NoI.wrOf wNoI (by
  clear wNoI
  rintro Zc _ _ Ψ ⟨a, b, rfl, rfl, ha, hb, lb, k⟩
  unfold t_begins_with
  show ExS _ _ _ _ ⟨[.dat (.tuple (dS a)), .dat (.tuple (dS b))], []⟩ _
  walk_at "go"
  rw [dS_len, cut_tS]
  refine os_eqW rfl rfl (fun x hx => ha.1 x (List.mem_of_mem_take hx)) hb ?_
  exact k _
  )]
  intro _ hNoI
  simpa using (fun (_ : NoI.Sg) => hNoI) [5]
section
variable {sl : List SV} {mem : Mem} {Φ : SV → S → Prop}
theorem use_begins {a b : List Str} (ha : WoOk a) (hb : NamesOk b) (lb : b.length ≤ 2000) (k : Φ (.dat (.bool (begB a b))) ⟨sl, mem⟩) : C_begins_with ([.tuple (dS a), .tuple (dS b)].map SV.dat) [] (backP ⟨sl, mem⟩ Φ) := ⟨a, b, rfl, rfl, ha, hb, lb, fun m' => k⟩
theorem use_longer {e : Edge} (he : EdgeOk e) (k : Φ (.dat (.tuple (dS (upE e)))) ⟨sl, mem⟩) : C_longer_end ([edgeD e].map SV.dat) [] (backP ⟨sl, mem⟩ Φ) := ⟨e, rfl, rfl, he, fun m' => k⟩
end
theorem up_ok {e : Edge} (h : EdgeOk e) : NamesOk (upE e) ∧ (upE e).length ≤ 1001 := by
  refine NoI.keep (fun _ wNoI => ?_) ?_
  simp only [↓ NoI.wrOf wNoI (by
  clear wNoI
  refine ⟨fun x hx => ?_, by have := h.2.2; unfold upE; simp; omega⟩
  rcases List.mem_append.mp hx with hx | hx
  · exact h.1 x hx
  · simp at hx; subst hx; exact h.2.1
  )]
  intro _ hNoI
  simpa using (fun (_ : NoI.Sg) => hNoI) [5]
theorem wp_longer_end {K : PySem.W.Frag} : ∀ Zc svs m Ψ, C_longer_end svs m Ψ → ExS K Zc m.length (t_longer_end K) ⟨svs ++ List.replicate (3 - svs.length) .un, m⟩ (retE Ψ) := by
  refine NoI.keep (fun _ wNoI => ?_) ?_
  simp only [↓ NoI.wrOf wNoI (by
  clear wNoI
  rintro Zc _ _ Ψ ⟨⟨w, x⟩, rfl, rfl, he, k⟩
  unfold t_longer_end
  show ExS _ _ _ _ ⟨[.dat (.tuple [.tuple (dS w), .str x]), .un, .un], []⟩ _
  have h3 := he.2.2
  walk_at "go"
  refine ⟨_, rfl, ?_⟩
  walk_at "go"
  refine ⟨small (by simp [dS]; simp at h3; omega), ?_⟩
  have e := k []
  rw [show dS (upE (w, x)) = dS w ++ [.str x] by simp [upE, dS]] at k
  exact k _
  )]
  intro _ hNoI
  simpa using (fun (_ : NoI.Sg) => hNoI) [5]
end LW

/-! where a way between two reduced words stands, edge by edge; its edges are unlike -/
namespace LW
open PySem PySem.Spec PyProof.Rows L2 SH
section
variable [WW]
/-! edges as keys -/
end
end LW

/-! words of a fleet that has names alone; a row of edges -/
namespace LW
open PySem PySem.Spec PyProof.Rows L2 SH
variable [WW]
def namesD (xs : List Str) : D := .tuple [.tuple (dS xs), .tuple [], .tuple []]
structure NmOk (xs : List Str) : Prop where
  ok : NamesOk xs
  ne : xs ≠ []
  ln : xs.length ≤ 1000
def C__law_any_wordN : Ct := fun svs m Ψ => ∃ (b : Bag) (T most : Nat) (xs : List Str), svs = [.own 0, .dat (namesD xs), .dat (.int (most : Int))] ∧ m = [some b.d] ∧ WB (T + 101) b ∧ NmOk xs ∧ most ≤ 50 ∧
  ∀ m' (w : List Str) (b' : Bag), (∀ x ∈ w, x ∈ xs) → w.length ≤ most → WB T b' → m'[0]? = some (some b'.d) → Ψ (.dat (.tuple (dS w))) m'
end LW

namespace LW
open PySem PySem.Spec PyProof.Rows L2 SH
variable [WW]
def t__law_any_wordN (K : PySem.W.Frag) : TS :=
  (tSeq (tAsg (tLst tNil) (gName 3))
  (tSeq (tFor (iRng1 (tCons (tCall (spP K C__law_take) [] E0 (tCons (tVar 0) (tCons (tOp (rAddU K) (tVar 2) (tC (.int 1))) tNil))) tNil)) (gName 4)
    (tDrop (tBM K "list" rAppend (tVar 3) (tCons (tIf (tAnd (tTest (tOp (rNeU K) (tVar 3) (tLst tNil))) (tTest (tOp (rEqU K) (tCall (spP K C__law_take) [] E0 (tCons (tVar 0) (tCons (tC (.int 3)) tNil))) (tC (.int 0))))) (tOp (rIxU K) (tVar 3) (tUn (rU fun i => .int (-i)) (tC (.int 1)))) (tCall (spP K C__law_some) [] E0 (tCons (tVar 0) (tCons (tOp (rIxU K) (tVar 1) (tC (.int 0))) tNil)))) tNil))))
  (tRet (tCB (rTupU K) (tCons (tVar 3) tNil)))))
end LW

end
section

local macro_rules | `(tactic| walk_at "ev1") => `(tactic| first
  | (with_reducible refine SH.ex_seq ?_)
  | (with_reducible refine SH.ex_if ?_)
  | (with_reducible refine SH.ex_ret ?_)
  | (with_reducible refine SH.ex_drop ?_)
  | (with_reducible refine SH.ex_augS ?_)
  | (with_reducible refine SH.ex_put ?_)
  | ((with_reducible show SH.ExS _ _ _ (L2.tAsg _ (L2.gTup _ _ (L2.gCons (L2.gSub _ _ SH.rSetU) _))) _ _); refine SH.ex_asgT ?_)
  | ((with_reducible show SH.ExS _ _ _ (L2.tAsg _ (L2.gSub _ _ SH.rSetU)) _ _); refine SH.ex_asgT ?_)
  | (with_reducible refine SH.ex_asg ?_)
  | (with_reducible refine SH.ex_next ?_)
  | (with_reducible refine SH.ex_par ?_)
  | (with_reducible refine SH.ex_par3 ?_)
  | (with_reducible refine SH.ex_break ?_)
  | (with_reducible refine SH.ex_cont ?_)
  | (with_reducible refine SH.g_name ?_)
  | (with_reducible refine SH.gt_name ?_)
  | (with_reducible refine SH.gt_cons ?_)
  | (with_reducible refine SH.gt_nil ?_)
  | ((with_reducible refine SH.gt_tup (ds := ?shS) ?shA ?shB ?shD ?shC); (case shA => exact rfl); (case shB => exact rfl); (case shD => exact rfl))
  | (with_reducible refine SH.g_cons ?_)
  | (with_reducible refine SH.g_nil ?_)
  | ((with_reducible refine SH.g_tup (ds := ?shS) ?shA ?shB ?shD ?shC); (case shA => exact rfl); (case shB => exact rfl); (case shD => exact rfl))
  | (with_reducible refine SH.tt_test ?_)
  | (with_reducible refine SH.tt_tru ?_)
  | (with_reducible refine SH.tt_and ?_)
  | (with_reducible refine SH.tt_or ?_)
  | (with_reducible refine SH.tt_not ?_)
  | (with_reducible refine SH.tt_yes ?_)
  | (with_reducible refine SH.ev_int ?_)
  | (with_reducible refine SH.ev_str ?_)
  | (with_reducible refine SH.ev_bl ?_)
  | (with_reducible refine SH.ev_non ?_)
  | (with_reducible refine SH.ev_op ?_)
  | (with_reducible refine SH.ev_un ?_)
  | (with_reducible refine SH.ev_if ?_)
  | (with_reducible refine SH.ev_sl ?_)
  | (with_reducible refine SH.ev_cb ?_)
  | (with_reducible refine SH.ev_bmL ?_)
  | (with_reducible refine SH.ev_bmL0 ?_)
  | (with_reducible refine SH.ev_tupD ?_)
  | (with_reducible refine SH.ev_lstD ?_)
  | (with_reducible refine SH.ev_andV ?_)
  | (with_reducible refine SH.ev_join ?_)
  | (with_reducible refine SH.asD_dat ?_)
  | (with_reducible refine SH.ad_nil ?_)
  | (with_reducible refine SH.ad_cons ?_)
  | (with_reducible refine SH.ar_nil ?_)
  | (with_reducible refine SH.ar_cons ?_)
  | (with_reducible refine SH.pt_none ?_)
  | (with_reducible refine SH.pt_part ?_)
  | (with_reducible refine SH.it_range1 ?_)
  | (with_reducible refine SH.it_range2 ?_)
  | (with_reducible refine SH.it_seq ?_)
  | ((with_reducible refine SH.ev_var (sv := ?shS) ?shA ?shB ?shC); (case shA => exact rfl); (case shB => (intro z; cases z)))
  | ((with_reducible refine SH.ev_callBD (j := ?shS) ?shA ?shC); (case shA => exact rfl))
  | (with_reducible refine SH.ev_callD ?_)
  | ((with_reducible show ∃ shE1, SH.SV.dat (PySem.PyData.bool _) = SH.SV.dat (PySem.PyData.bool shE1) ∧ _); refine ⟨_, rfl, ?_⟩)
  | ((with_reducible show ∃ shE1, SH.SV.dat (PySem.PyData.int _) = SH.SV.dat (PySem.PyData.int shE1) ∧ _); refine ⟨_, rfl, ?_⟩)
  | ((with_reducible refine And.intro (a := _ ≤ PySem.sizeLine) ?shA ?shC); (case shA => (first | decide | (rw [PySem.sizeLine_eq]; simp only [List.length_cons, List.length_nil, List.length_append, List.length_map]; omega))))
  | ((with_reducible refine SH.asD_own (ds := ?shS) ?shA ?shC); (case shA => exact rfl))
  | ((with_reducible show SH.OpS _ _ (SH.rIxU _) _ _ _ _); first | refine SH.os_uL rfl rfl rfl ?_ | refine SH.os_uT rfl rfl rfl ?_)
  | ((with_reducible show SH.OpS _ _ (SH.rAddU _) _ _ _ _); first | refine SH.os_addI rfl rfl ?_ | (refine SH.os_addS rfl rfl ?_ ?_; rotate_left 1) | (refine SH.os_addL rfl rfl ?_ ?_; rotate_left 1) | (refine SH.os_addT rfl rfl ?_ ?_; rotate_left 1))
  | ((with_reducible show SH.OpS _ _ (SH.rMulX _) _ _ _ _); first | (refine SH.os_mxI rfl rfl ?_ ?_; rotate_left 1) | (refine SH.os_mxS rfl rfl ?_ ?_; rotate_left 1))
  | ((with_reducible show SH.OpS _ _ (SH.rEqU _) _ _ _ _); first | refine SH.os_eqI rfl rfl ?_ | refine SH.os_eqS rfl rfl ?_)
  | ((with_reducible show SH.OpS _ _ (SH.rNeU _) _ _ _ _); first | refine SH.os_neI rfl rfl ?_ | refine SH.os_neS rfl rfl ?_)
  | ((with_reducible show SH.OpS _ _ _ _ _ _ _); first | refine SH.os_lt rfl rfl ?_ | refine SH.os_le rfl rfl ?_ | refine SH.os_gt rfl rfl ?_ | refine SH.os_ge rfl rfl ?_ | refine SH.os_sub rfl rfl ?_ | (refine SH.os_mod rfl rfl (by decide) ?_) | (refine SH.os_mod rfl rfl ?_ ?_; rotate_left 1) | (refine SH.os_div rfl rfl (by decide) (by decide) ?_) | (refine SH.os_div rfl rfl ?_ ?_ ?_; rotate_left 2) | (refine SH.os_pow rfl rfl ?_ ?_; rotate_left 1))
  | ((with_reducible show SH.UnS _ _ _ _ _ _); first | refine SH.un_neg' rfl ?_)
  | ((with_reducible show SH.SlS _ _ _ _ _ _ _ _); first | refine SH.sl_L rfl ?_ | refine SH.sl_T rfl ?_ | (refine SH.sl_S rfl ?_ ?_; rotate_left 1) | refine SH.sl_ro rfl ?_)
  | ((with_reducible show SH.CbS _ _ _ _ _ _); first | refine SH.cb_lenL rfl ?_ | refine SH.cb_lenT rfl ?_ | (refine SH.cb_lenS rfl ?_ ?_; rotate_left 1) | refine SH.cb_abs rfl ?_ | refine SH.cb_int rfl ?_ | refine SH.cb_listWL rfl ?_ | refine SH.cb_listWT rfl ?_ | refine SH.cb_tupL rfl ?_ | refine SH.cb_tupT rfl ?_ | refine SH.cb_rng1 rfl ?_ | refine SH.cb_rng2 rfl rfl ?_))
local macro_rules | `(tactic| walk_at "ev") => `(tactic| repeat walk_at "ev1")
local macro_rules | `(tactic| walk_at "wk") => `(tactic| (repeat' first | exact trivial | exact Or.inl rfl | (refine And.intro ?_ ?_) | exact Or.inr rfl | (refine Or.inr ⟨rfl, ?_⟩; intro j e; first | (cases e; done) | (cases e; show _ < _; first | decide | simp))))
local macro_rules | `(tactic| walk_at "nrm") => `(tactic| dsimp only [SH.S.fz, SH.SV.fz, List.map, List.set, SH.wipeS, List.cons_append, List.nil_append, List.length_cons, List.length_nil, Nat.beq, List.replicate])
local macro_rules | `(tactic| walk_at "go") => `(tactic| (walk_at "ev"; (try walk_at "nrm"); walk_at "ev"; (try walk_at "nrm"); walk_at "ev"; (try walk_at "nrm")))

namespace LW
open PySem PySem.Spec PyProof.Rows L2 SH
variable [WW]
theorem wp__law_any_wordN {K : PySem.W.Frag} : ∀ Zc svs m Ψ, C__law_any_wordN svs m Ψ → ExS K Zc m.length (t__law_any_wordN K) ⟨svs ++ List.replicate (5 - svs.length) .un, m⟩ (retE Ψ) := by
  refine NoI.keep (fun _ wNoI => ?_) ?_
  simp only [↓ NoI.wrOf wNoI (by
  clear wNoI
  rintro Zc _ _ Ψ ⟨b, T, most, xs, rfl, rfl, hw, hF, hm, k⟩
  unfold t__law_any_wordN
  have hne : dS xs ≠ [] := fun z => hF.ne (List.map_eq_nil_iff.mp z)
  walk_at "ev"
  walk_at "nrm"
  refine ex_for (it_range1 ?_)
  walk_at "ev"
  refine use_take (T := T + 100) rfl (hw.less (by omega)) (by omega) (by omega) fun v b1 v0 v1 hw1 => ?_
  walk_at "ev"
  walk_at "nrm"
  obtain ⟨n, rfl⟩ := Int.eq_ofNat_of_zero_le v0
  refine ⟨_, rfl, by omega, by omega, fun i s => ∃ (b' : Bag) (w : List Str), w.length = i ∧ i ≤ most ∧ (∀ x ∈ w, x ∈ xs) ∧ WB (T + 100 - 2 * i) b' ∧ s = ⟨[.own 0, .dat (namesD xs), .dat (.int (most : Int)), .own 1, .un], [some b'.d, some (.list (dS w))]⟩,
    To.of _ ⟨b1, [], rfl, by omega, fun x hx => by simp at hx, hw1, rfl⟩ (by walk_at "wk") (by walk_at "wk") (by simp), ?_, ?_⟩
  · rintro i d _ hd ⟨b2, w, rfl, hi, hwo, hw2, rfl⟩ _
    obtain ⟨hi', rfl⟩ := rangeD_at hd
    have hwn : NamesOk w := fun x hx => hF.ok x (hwo x hx)
    have fin : ∀ (x : Str) (b' : Bag), x ∈ xs → WB (T + 100 - 2 * (w.length + 1)) b' → To 1 (fun s => ∃ (b' : Bag) (w2 : List Str), w2.length = w.length + 1 ∧ w.length + 1 ≤ most ∧ (∀ x ∈ w2, x ∈ xs) ∧ WB (T + 100 - 2 * (w.length + 1)) b' ∧ s = ⟨[.own 0, .dat (namesD xs), .dat (.int (most : Int)), .own 1, .un], [some b'.d, some (.list (dS w2))]⟩)
        ⟨[.own 0, .dat (namesD xs), .dat (.int (most : Int)), .own 1, .dat (.int (w.length : Int))], [some b'.d, some (.list (dS w ++ [.str x])), some (.list [])]⟩ := fun x b' hx hb => by
      refine To.of _ ⟨b', w ++ [x], by simp, by omega, fun y hy => ?_, hb, rfl⟩ (by walk_at "wk") (by simp [WkMs, dS]) (by simp)
      rcases List.mem_append.mp hy with q | q
      · exact hwo y q
      · simp at q; subst q; exact hx
    walk_at "ev"
    refine ⟨⟨_, rfl⟩, ?_⟩
    walk_at "ev"
    walk_at "nrm"
    refine os_ne rfl rfl (shaped_strs hwn) rfl ?_
    walk_at "ev"
    have dflt : ∀ (b3 : Bag) (Φ : SV → S → Prop), WB (T + 100 - 2 * w.length - 1) b3 → (∀ x b4, x ∈ xs → WB (T + 100 - 2 * (w.length + 1)) b4 → Φ (.dat (.str x)) ⟨[.own 0, .dat (namesD xs), .dat (.int (most : Int)), .own 1, .dat (.int (w.length : Int))], [some b4.d, some (.list (dS w)), some (.list [])]⟩) →
        EvS K Zc (tCall (spP K C__law_some) [] E0 (tCons (tVar 0) (tCons (tOp (rIxU K) (tVar 1) (tC (.int 0))) tNil))) ⟨[.own 0, .dat (namesD xs), .dat (.int (most : Int)), .own 1, .dat (.int (w.length : Int))], [some b3.d, some (.list (dS w)), some (.list [])]⟩ Φ := fun b3 Φ hb3 hΦ => by
      walk_at "ev"
      refine use_some (T := T + 100 - 2 * (w.length + 1)) rfl (hb3.less (by omega)) rfl hne (by rw [dS_len]; have := hF.ln; omega) fun d b4 hd hb4 => ?_
      obtain ⟨x, hx, rfl⟩ := List.mem_map.mp hd
      exact hΦ x b4 hx hb4
    refine ⟨fun hb => ?_, fun hb => ⟨by nofun, fun _ => ?_⟩⟩
    · walk_at "ev"
      refine use_take (T := T + 100 - 2 * w.length - 1) rfl (hw2.less (by omega)) (by omega) (by omega) fun v b3 _ _ hw3 => ?_
      walk_at "ev"
      refine ⟨fun _ => ?_, fun _ => ?_⟩
      · rcases List.eq_nil_or_concat w with rfl | ⟨ys, y, rfl⟩
        · simp [dS, PyData.eqv, PyData.eqvAll] at hb
        · have e : dS (ys.concat y) = dS ys ++ [.str y] := by simp [dS]
          walk_at "ev"
          refine os_uL rfl rfl (d := .str y) (by rw [e]; exact atI_last _ _) ?_
          walk_at "ev"
          refine mt_appendS rfl (small (by rw [dS_len]; omega)) ?_
          walk_at "nrm"
          exact fin y b3 (hwo y (by simp)) (hw3.less (by omega))
      · refine dflt b3 _ hw3 fun x b4 hx hb4 => ?_
        walk_at "ev"
        refine mt_appendS rfl (small (by rw [dS_len]; omega)) ?_
        walk_at "nrm"
        exact fin x b4 hx hb4
    · refine dflt b2 _ (hw2.less (by omega)) fun x b4 hx hb4 => ?_
      walk_at "ev"
      refine mt_appendS rfl (small (by rw [dS_len]; omega)) ?_
      walk_at "nrm"
      exact fin x b4 hx hb4
  · rintro _ ⟨b2, w, hl, hi, hwo, hw2, rfl⟩ _
    walk_at "ev"
    exact k _ w b2 hwo (by simp [rangeD] at hl; omega) (hw2.less (by omega)) rfl
  )]
  intro _ hNoI
  simpa using (fun (_ : NoI.Sg) => hNoI) [5]
end LW

end
section

local macro_rules | `(tactic| walk_at "ev1") => `(tactic| first
  | (with_reducible refine SH.ex_seq ?_)
  | (with_reducible refine SH.ev_orV ?_)
  | (with_reducible refine SH.ev_ckw ?_)
  | ((with_reducible show SH.MtS _ _ L2.rExtend _ _ _ _); refine SH.mt_extendS rfl rfl ?_ ?_; rotate_left 1)
  | ((with_reducible show SH.CbS _ _ SH.rTupR _ _ _); refine SH.cb_tupR rfl ?_ ?_ ?_; rotate_left 2)
  | (with_reducible refine SH.ev_notV ?_)
  | (with_reducible refine SH.ev_chain ?_)
  | (with_reducible refine SH.back ?_)
  | ((with_reducible show (true = true → _) ∧ (true = false → _)); refine ⟨fun _ => ?_, fun shh => Bool.noConfusion shh⟩)
  | ((with_reducible show (false = true → _) ∧ (false = false → _)); refine ⟨fun shh => Bool.noConfusion shh, fun _ => ?_⟩)
  | ((with_reducible show ((!true) = true → _) ∧ ((!true) = false → _)); refine ⟨fun shh => Bool.noConfusion shh, fun _ => ?_⟩)
  | ((with_reducible show ((!false) = true → _) ∧ ((!false) = false → _)); refine ⟨fun _ => ?_, fun shh => Bool.noConfusion shh⟩)
  | ((with_reducible show ∃ shE1 shE2, [_, _] = [shE1, shE2] ∧ _); refine ⟨_, _, rfl, ?_⟩)
  | ((with_reducible show ∃ shE1 shE2 shE3, [_, _, _] = [shE1, shE2, shE3] ∧ _); refine ⟨_, _, _, rfl, ?_⟩)
  | ((with_reducible show (∃ shE1, SH.rd _ _ = some (PySem.PyData.list shE1)) ∧ _); refine ⟨⟨_, rfl⟩, ?_⟩)
  | ((with_reducible show SH.MtS _ _ L2.rAppend _ _ _ _); refine SH.mt_appendS rfl ?_ ?_; rotate_left 1)
  | ((with_reducible show ∃ shE1 shE2, SH.rd _ (SH.SV.dat (PySem.PyData.bool _)) = some shE1 ∧ SH.truD shE1 = some shE2 ∧ _); refine ⟨_, _, rfl, rfl, by nofun, ?_⟩)
  | (with_reducible refine SH.ex_if ?_)
  | (with_reducible refine SH.ex_ret ?_)
  | (with_reducible refine SH.ex_drop ?_)
  | (with_reducible refine SH.ex_augS ?_)
  | (with_reducible refine SH.ex_put ?_)
  | ((with_reducible show SH.ExS _ _ _ (L2.tAsg _ (L2.gTup _ _ (L2.gCons (L2.gSub _ _ SH.rSetU) _))) _ _); refine SH.ex_asgT ?_)
  | ((with_reducible show SH.ExS _ _ _ (L2.tAsg _ (L2.gSub _ _ SH.rSetU)) _ _); refine SH.ex_asgT ?_)
  | (with_reducible refine SH.ex_asg ?_)
  | (with_reducible refine SH.ex_next ?_)
  | (with_reducible refine SH.ex_par ?_)
  | (with_reducible refine SH.ex_par3 ?_)
  | (with_reducible refine SH.ex_break ?_)
  | (with_reducible refine SH.ex_cont ?_)
  | (with_reducible refine SH.g_name ?_)
  | (with_reducible refine SH.gt_name ?_)
  | (with_reducible refine SH.gt_cons ?_)
  | (with_reducible refine SH.gt_nil ?_)
  | ((with_reducible refine SH.gt_tup (ds := ?shS) ?shA ?shB ?shD ?shC); (case shA => exact rfl); (case shB => exact rfl); (case shD => exact rfl))
  | (with_reducible refine SH.g_cons ?_)
  | (with_reducible refine SH.g_nil ?_)
  | ((with_reducible refine SH.g_tup (ds := ?shS) ?shA ?shB ?shD ?shC); (case shA => exact rfl); (case shB => exact rfl); (case shD => exact rfl))
  | (with_reducible refine SH.tt_test ?_)
  | (with_reducible refine SH.tt_tru ?_)
  | (with_reducible refine SH.tt_and ?_)
  | (with_reducible refine SH.tt_or ?_)
  | (with_reducible refine SH.tt_not ?_)
  | (with_reducible refine SH.tt_yes ?_)
  | (with_reducible refine SH.ev_isi (by decide) ?_)
  | (with_reducible refine SH.ev_dnew ?_)
  | (with_reducible refine SH.ev_disp1 ?_)
  | (with_reducible refine SH.ev_upper ?_)
  | (with_reducible refine SH.ev_int ?_)
  | (with_reducible refine SH.ev_str ?_)
  | (with_reducible refine SH.ev_bl ?_)
  | (with_reducible refine SH.ev_non ?_)
  | (with_reducible refine SH.ev_op ?_)
  | (with_reducible refine SH.ev_un ?_)
  | (with_reducible refine SH.ev_if ?_)
  | (with_reducible refine SH.ev_sl ?_)
  | (with_reducible refine SH.ev_cb ?_)
  | (with_reducible refine SH.ev_bmL ?_)
  | (with_reducible refine SH.ev_bmL0 ?_)
  | (with_reducible refine SH.ev_tupD ?_)
  | (with_reducible refine SH.ev_lstD ?_)
  | (with_reducible refine SH.ev_andV ?_)
  | (with_reducible refine SH.ev_join ?_)
  | (with_reducible refine SH.asD_dat ?_)
  | (with_reducible refine SH.ad_nil ?_)
  | (with_reducible refine SH.ad_cons ?_)
  | (with_reducible refine SH.ad_star ?_)
  | (with_reducible refine SH.ar_nil ?_)
  | (with_reducible refine SH.ar_cons ?_)
  | (with_reducible refine SH.pt_none ?_)
  | (with_reducible refine SH.pt_part ?_)
  | (with_reducible refine SH.it_range1 ?_)
  | (with_reducible refine SH.it_range2 ?_)
  | (with_reducible refine SH.it_seq ?_)
  | (with_reducible refine SH.it_walk ?_)
  | (with_reducible refine SH.it_zip ?_)
  | (with_reducible refine SH.it_itemsD ?_)
  | (with_reducible refine SH.it_valsD ?_)
  | (with_reducible refine SH.ev_lenSet ?_)
  | (with_reducible refine SH.it_range3 ?_)
  | (with_reducible refine SH.it_revR2 ?_)
  | (with_reducible refine SH.it_revR1 ?_)
  | (with_reducible refine SH.ev_dgX ?_)
  | ((with_reducible refine SH.ev_var (sv := ?shS) ?shA ?shB ?shC); (case shA => exact rfl); (case shB => (intro z; cases z)))
  | ((with_reducible refine SH.ev_callBD (j := ?shS) ?shA ?shC); (case shA => exact rfl))
  | (with_reducible refine SH.ev_callD ?_)
  | ((with_reducible show ∃ shE1, SH.SV.dat (PySem.PyData.bool _) = SH.SV.dat (PySem.PyData.bool shE1) ∧ _); refine ⟨_, rfl, ?_⟩)
  | ((with_reducible show ∃ shE1, SH.SV.dat (PySem.PyData.int _) = SH.SV.dat (PySem.PyData.int shE1) ∧ _); refine ⟨_, rfl, ?_⟩)
  | ((with_reducible refine And.intro (a := _ ≤ PySem.sizeLine) ?shA ?shC); (case shA => (first | decide | (rw [PySem.sizeLine_eq]; simp only [List.length_cons, List.length_nil, List.length_append, List.length_map]; omega))))
  | ((with_reducible refine SH.asD_own (ds := ?shS) ?shA ?shC); (case shA => exact rfl))
  | ((with_reducible show SH.OpS _ _ (SH.rIxU _) _ _ _ _); first | refine SH.os_uL rfl rfl rfl ?_ | refine SH.os_uT rfl rfl rfl ?_)
  | ((with_reducible show SH.OpS _ _ (SH.rAddU _) _ _ _ _); first | refine SH.os_addI rfl rfl ?_ | (refine SH.os_addS rfl rfl ?_ ?_; rotate_left 1) | (refine SH.os_addL rfl rfl ?_ ?_; rotate_left 1) | (refine SH.os_addT rfl rfl ?_ ?_; rotate_left 1))
  | ((with_reducible show SH.OpS _ _ (SH.rMulX _) _ _ _ _); first | (refine SH.os_mxI rfl rfl ?_ ?_; rotate_left 1) | (refine SH.os_mxS rfl rfl ?_ ?_; rotate_left 1))
  | ((with_reducible show SH.OpS _ _ (SH.rEqU _) _ _ _ _); first | refine SH.os_eqI rfl rfl ?_ | refine SH.os_eqS rfl rfl ?_ | refine SH.os_eqO rfl rfl ?_)
  | ((with_reducible show SH.OpS _ _ (SH.rNeU _) _ _ _ _); first | refine SH.os_neI rfl rfl ?_ | refine SH.os_neS rfl rfl ?_ | refine SH.os_neO rfl rfl ?_)
  | ((with_reducible show SH.OpS _ _ _ _ _ _ _); first | refine SH.os_lt rfl rfl ?_ | refine SH.os_le rfl rfl ?_ | refine SH.os_gt rfl rfl ?_ | refine SH.os_ge rfl rfl ?_ | refine SH.os_sub rfl rfl ?_ | (refine SH.os_mod rfl rfl (by decide) ?_) | (refine SH.os_mod rfl rfl ?_ ?_; rotate_left 1) | (refine SH.os_div rfl rfl (by decide) (by decide) ?_) | (refine SH.os_div rfl rfl ?_ ?_ ?_; rotate_left 2) | (refine SH.os_pow rfl rfl ?_ ?_; rotate_left 1))
  | ((with_reducible show SH.UnS _ _ _ _ _ _); first | refine SH.un_neg' rfl ?_)
  | ((with_reducible show SH.SlS _ _ _ _ _ _ _ _); first | refine SH.sl_L rfl ?_ | refine SH.sl_T rfl ?_ | (refine SH.sl_S rfl ?_ ?_; rotate_left 1) | refine SH.sl_ro rfl ?_)
  | ((with_reducible show SH.CbS _ _ (SH.rLenX _) _ _ _); refine SH.cb_lx rfl rfl ?_)
  | ((with_reducible show SH.CbS _ _ _ _ _ _); first | refine SH.cb_lenL rfl ?_ | refine SH.cb_lenT rfl ?_ | (refine SH.cb_lenS rfl ?_ ?_; rotate_left 1) | refine SH.cb_abs rfl ?_ | refine SH.cb_int rfl ?_ | refine SH.cb_listWL rfl ?_ | refine SH.cb_listWT rfl ?_ | refine SH.cb_tupL rfl ?_ | refine SH.cb_tupT rfl ?_ | refine SH.cb_min2 rfl rfl ?_ | refine SH.cb_max2 rfl rfl ?_ | refine SH.cb_rng1 rfl ?_ | refine SH.cb_rng2 rfl rfl ?_))
local macro_rules | `(tactic| walk_at "ev") => `(tactic| repeat walk_at "ev1")
local macro_rules | `(tactic| walk_at "wk") => `(tactic| (repeat' first | exact trivial | exact Or.inl rfl | (refine And.intro ?_ ?_) | exact Or.inr rfl | (refine Or.inr ⟨rfl, ?_⟩; intro j e; first | (cases e; done) | (cases e; show _ < _; first | decide | simp))))
local macro_rules | `(tactic| walk_at "nrm") => `(tactic| dsimp only [SH.S.fz, SH.SV.fz, List.map, List.set, SH.wipeS, List.cons_append, List.nil_append, List.length_cons, List.length_nil, Nat.beq, List.replicate])
local macro_rules | `(tactic| walk_at "go") => `(tactic| (walk_at "ev"; (try walk_at "nrm"); walk_at "ev"; (try walk_at "nrm"); walk_at "ev"; (try walk_at "nrm")))


namespace LW
open PySem PySem.Spec PyProof.Rows L2 SH
variable [WW]
theorem layW {w : List Str} (h : NamesOk w) : (PyData.tuple (dS w)).canLay0 = true := SeqAt.canLay_of_shaped (shW h)
theorem cut_lastW (w : List Str) : SH.cutD (dS w) (some (-1)) none = dS (w.drop (w.length - 1)) := by
  refine NoI.keep (fun _ wNoI => ?_) ?_
  simp only [↓ NoI.wrOf wNoI (by
  clear wNoI
  unfold SH.cutD
  rw [HT.sIx_none]
  have e : HT.sIx (dS w).length 0 (some (-1)) = (dS w).length - 1 := by
    show (if (-1 : Int) < 0 then ((-1 : Int) + ((dS w).length : Int)).toNat else min (-1 : Int).toNat (dS w).length) = _
    rw [if_pos (by decide)]
    omega
  rw [e, List.take_of_length_le (by rw [List.length_drop]; exact Nat.le_refl _), dS_len]
  unfold dS
  rw [List.map_drop]
  )]
  intro _ hNoI
  simpa using (fun (_ : NoI.Sg) => hNoI) [5]
section
variable {sl : List SV} {mem : Mem} {Φ : SV → S → Prop} {b : Bag} {T j : Nat}
theorem use_wordN {xs : List Str} {most : Nat} (hm : mem[j]? = some (some b.d)) (hw : WB (T + 101) b) (hx : NmOk xs) (hmo : most ≤ 50)
    (k : ∀ (w : List Str) (b' : Bag), (∀ x ∈ w, x ∈ xs) → w.length ≤ most → WB T b' → Φ (.dat (.tuple (dS w))) ⟨sl, mem.set j (some b'.d)⟩) :
    ∃ bs, mem[j]? = some (some bs) ∧ C__law_any_wordN (.own 0 :: [namesD xs, .int (most : Int)].map SV.dat) [some bs] (backB ⟨sl, mem⟩ j Φ) :=
  ⟨_, hm, b, T, most, xs, rfl, rfl, hw, hx, hmo, fun m' w b' h1 h2 hw' hm' => ⟨_, _, rfl, hm', k w b' h1 h2 hw'⟩⟩
end
end LW


namespace LW
open PySem PySem.Spec PyProof.Rows L2 SH
variable [WW]
structure Wd (n : Nat) (a : List Str) : Prop where
  nm : NamesOk a
  ln : a.length ≤ n
theorem Wd.wo {n : Nat} {a : List Str} (h : Wd n a) (hn : n ≤ 1000) : WoOk a := ⟨h.nm, Nat.le_trans h.ln hn⟩
def nameG (y : List Str) : D → Option D
  | .str x => if y.drop (y.length - 1) = [x] then none else some (.str x)
  | _ => none
theorem nameG_dS (y : List Str) : ∀ xs : List Str, (dS xs).filterMap (nameG y) = dS (xs.filter fun x => !decide (y.drop (y.length - 1) = [x]))
  | [] => rfl
  | x :: xs => by
    show List.filterMap (nameG y) (.str x :: dS xs) = _
    by_cases h : y.drop (y.length - 1) = [x]
    · have hg : nameG y (.str x) = none := if_pos h
      rw [List.filterMap_cons_none hg, nameG_dS y xs, List.filter_cons_of_neg (by simp [h])]
    · have hg : nameG y (.str x) = some (.str x) := if_neg h
      rw [List.filterMap_cons_some hg, nameG_dS y xs, List.filter_cons_of_pos (by simp [h])]
      rfl
theorem eqv_lnil (l : List Str) : PyData.eqv (.list (dS l)) (.list []) = decide (l = []) := by
  cases l <;> simp [dS, PyData.eqv, PyData.eqvAll]
section
variable {sl : List SV} {mem : Mem} {Φ : SV → S → Prop}
end
theorem wd_red {n : Nat} {w : List Str} (h : NamesOk w) (hl : w.length ≤ n) : Wd n (redS w) := ⟨redS_names h, Nat.le_trans (redS_len w) hl⟩
theorem nm_app {a b : List Str} (ha : NamesOk a) (hb : NamesOk b) : NamesOk (a ++ b) := fun x hx => by
  rcases List.mem_append.mp hx with h | h
  · exact ha x h
  · exact hb x h
end LW

/-! medians of words, and what lies nearest on all sides -/
namespace LW
open PySem PySem.Spec PyProof.Rows L2 SH
variable [WW]
theorem le_com : ∀ {a b : List Str} {k : Nat}, k ≤ a.length → k ≤ b.length → a.take k = b.take k → k ≤ comL a b
  | _, _, 0, _, _, _ => Nat.zero_le _
  | x :: a, y :: b, k + 1, h1, h2, e => by
    rw [List.take_succ_cons, List.take_succ_cons] at e
    injection e with e1 e2
    subst e1
    rw [comL_cons]
    have := le_com (a := a) (b := b) (k := k) (by simpa using h1) (by simpa using h2) e2
    omega
  | [], _, k + 1, h1, _, _ => by simp at h1
  | _ :: _, [], k + 1, _, h2, _ => by simp at h2
theorem com_ultra (a b c : List Str) : min (comL a b) (comL b c) ≤ comL a c := by
  refine NoI.keep (fun _ wNoI => ?_) ?_
  simp only [↓ NoI.wrOf wNoI (by
  clear wNoI
  have l1 := comL_le a b
  have l2 := comL_le b c
  refine le_com (by omega) (by omega) ?_
  have t1 := congrArg (List.take (min (comL a b) (comL b c))) (comL_take a b)
  have t2 := congrArg (List.take (min (comL a b) (comL b c))) (comL_take b c)
  rw [List.take_take, List.take_take, Nat.min_eq_left (Nat.min_le_left _ _)] at t1
  rw [List.take_take, List.take_take, Nat.min_eq_left (Nat.min_le_right _ _)] at t2
  exact t1.trans t2
  )]
  intro _ hNoI
  simpa using (fun (_ : NoI.Sg) => hNoI) [5]
theorem com_pre {a b : List Str} {k : Nat} (h : k ≤ comL a b) : comL a (b.take k) = k := by
  refine NoI.keep (fun _ wNoI => ?_) ?_
  simp only [↓ NoI.wrOf wNoI (by
  clear wNoI
  have l1 := comL_le a b
  have l2 := comL_le a (b.take k)
  rw [List.length_take] at l2
  have : k ≤ comL a (b.take k) := by
    refine le_com (by omega) (by rw [List.length_take]; omega) ?_
    have t1 := congrArg (List.take k) (comL_take a b)
    rw [List.take_take, List.take_take, Nat.min_eq_left h] at t1
    rw [t1, List.take_take, Nat.min_self]
  omega
  )]
  intro _ hNoI
  simpa using (fun (_ : NoI.Sg) => hNoI) [5]
theorem com_cut {a b : List Str} {k : Nat} (h : comL a b ≤ k) : comL a (b.take k) = comL a b := by
  refine NoI.keep (fun _ wNoI => ?_) ?_
  simp only [↓ NoI.wrOf wNoI (by
  clear wNoI
  have l1 := comL_le a b
  have l2 := comL_le a (b.take k)
  rw [List.length_take] at l2
  have u1 : comL a b ≤ comL a (b.take k) := by
    refine le_com (by omega) (by rw [List.length_take]; omega) ?_
    rw [List.take_take, Nat.min_eq_left h]
    exact comL_take a b
  have u2 : comL a (b.take k) ≤ comL a b := by
    refine le_com (by omega) (by omega) ?_
    have t := comL_take a (b.take k)
    rw [List.take_take, Nat.min_eq_left (by omega)] at t
    exact t
  omega
  )]
  intro _ hNoI
  simpa using (fun (_ : NoI.Sg) => hNoI) [5]
theorem beg_com {a b : List Str} : begB a b = true ↔ comL a b = b.length := by
  refine NoI.keep (fun _ wNoI => ?_) ?_
  simp only [↓ NoI.wrOf wNoI (by
  clear wNoI
  unfold begB
  rw [decide_eq_true_eq]
  constructor
  · intro h
    have hl : b.length ≤ a.length := by
      have := congrArg List.length h
      rw [List.length_take] at this
      omega
    have := le_com (a := a) (b := b) hl (Nat.le_refl _) (by rw [h, List.take_length])
    have := (comL_le a b).2
    omega
  · intro h
    have t := comL_take a b
    rw [h, List.take_length] at t
    exact t
  )]
  intro _ hNoI
  simpa using (fun (_ : NoI.Sg) => hNoI) [5]
theorem beg_len {a b : List Str} (h : begB a b = true) : b.length ≤ a.length := by
  have := beg_com.mp h
  have := (comL_le a b).1
  omega
theorem beg_trans {a b c : List Str} (h1 : begB a b = true) (h2 : begB b c = true) : begB a c = true := by
  rw [beg_com] at *
  have := com_ultra a b c
  have := (comL_le a c).2
  have := (comL_le b c).1
  omega
theorem beg_both {a b c : List Str} (h1 : begB a b = true) (h2 : begB a c = true) (hl : c.length ≤ b.length) : begB b c = true := by
  rw [beg_com] at *
  have := com_ultra b a c
  rw [comL_comm b a] at this
  have := (comL_le b c).2
  omega
theorem beg_eq {a b : List Str} (h : begB a b = true) (hl : a.length ≤ b.length) : a = b := by
  unfold begB at h
  have h := of_decide_eq_true h
  rw [List.take_of_length_le hl] at h
  exact h
theorem beg_nil (a : List Str) : begB a [] = true := by simp [begB]
theorem beg_self (a : List Str) : begB a a = true := by simp [begB]
theorem beg_long {a b : List Str} (h : a.length < b.length) : begB a b = false := by
  rw [Bool.eq_false_iff]
  intro z
  have := beg_len z
  omega
/-! the best of a row of words -/
def bestW (mx : Bool) (ws : List (List Str)) : List Str := ws.getD (bestI mx (ws.map List.length)) []
theorem bestW_spec (mx : Bool) {ws : List (List Str)} (h : ws ≠ []) : bestW mx ws ∈ ws ∧ ∀ w ∈ ws, if mx then w.length ≤ (bestW mx ws).length else (bestW mx ws).length ≤ w.length := by
  refine NoI.keep (fun _ wNoI => ?_) ?_
  simp only [↓ NoI.wrOf wNoI (by
  clear wNoI
  have hp : 0 < (ws.map List.length).length := by rw [List.length_map]; exact List.length_pos_iff.mpr h
  obtain ⟨h1, h2⟩ := bestI_spec mx hp
  rw [List.length_map] at h1 h2
  have e : bestW mx ws = ws[bestI mx (ws.map List.length)] := by
    unfold bestW
    rw [List.getD_eq_getElem?_getD, List.getElem?_eq_getElem h1]
    rfl
  have g : ∀ j (hj : j < ws.length), (ws.map List.length).getD j 0 = ws[j].length := fun j hj => by
    rw [List.getD_eq_getElem?_getD, List.getElem?_map, List.getElem?_eq_getElem hj]
    rfl
  refine ⟨by rw [e]; exact List.getElem_mem h1, fun w hw => ?_⟩
  obtain ⟨j, hj, rfl⟩ := List.getElem_of_mem hw
  have := h2 j hj
  rw [g j hj, g _ h1, ← e] at this
  exact this
  )]
  intro _ hNoI
  simpa using (fun (_ : NoI.Sg) => hNoI) [5]
theorem best_dS (mx : Bool) (ws : List (List Str)) : bestD mx (ws.map dS) = dS (bestW mx ws) := by
  refine NoI.keep (fun _ wNoI => ?_) ?_
  simp only [↓ NoI.wrOf wNoI (by
  clear wNoI
  have e : (ws.map dS).map List.length = ws.map List.length := by
    rw [List.map_map]
    exact List.map_congr_left fun w _ => by simp [dS]
  unfold bestD bestW
  rw [e, List.getD_eq_getElem?_getD, List.getD_eq_getElem?_getD, List.getElem?_map]
  cases ws[bestI mx (ws.map List.length)]? <;> rfl
  )]
  intro _ hNoI
  simpa using (fun (_ : NoI.Sg) => hNoI) [5]
/-! medians -/
def threeW (a b c : List Str) : List (List Str) := [a.take (comL a b), a.take (comL a c), b.take (comL b c)]
def medW (a b c : List Str) : List Str := bestW true (threeW a b c)
theorem len_com (a b : List Str) : (a.take (comL a b)).length = comL a b := by
  rw [List.length_take]
  have := (comL_le a b).1
  omega
theorem med_cases (a b c : List Str) : (medW a b c = a.take (comL a b) ∧ comL a c ≤ comL a b ∧ comL b c ≤ comL a b) ∨ (medW a b c = a.take (comL a c) ∧ comL a b ≤ comL a c ∧ comL b c ≤ comL a c) ∨ (medW a b c = b.take (comL b c) ∧ comL a b ≤ comL b c ∧ comL a c ≤ comL b c) := by
  refine NoI.keep (fun _ wNoI => ?_) ?_
  simp only [↓ NoI.wrOf wNoI (by
  clear wNoI
  obtain ⟨h1, h2⟩ := bestW_spec true (ws := threeW a b c) (by simp [threeW])
  have l1 := h2 (a.take (comL a b)) (by simp [threeW])
  have l2 := h2 (a.take (comL a c)) (by simp [threeW])
  have l3 := h2 (b.take (comL b c)) (by simp [threeW])
  simp only [if_true, len_com] at l1 l2 l3
  simp only [threeW, List.mem_cons, List.not_mem_nil, or_false] at h1
  change medW a b c = _ ∨ medW a b c = _ ∨ medW a b c = _ at h1
  change _ ≤ (medW a b c).length at l1 l2 l3
  rcases h1 with e | e | e
  · rw [e, len_com] at l2 l3; exact .inl ⟨e, l2, l3⟩
  · rw [e, len_com] at l1 l3; exact .inr (.inl ⟨e, l1, l3⟩)
  · rw [e, len_com] at l1 l2; exact .inr (.inr ⟨e, l1, l2⟩)
  )]
  intro _ hNoI
  simpa using (fun (_ : NoI.Sg) => hNoI) [5]
def farN (a b : List Str) : Nat := (wayL a b).length
theorem farN_eq (a b : List Str) : farN a b = (a.length - comL a b) + (b.length - comL a b) := wayL_len a b
theorem med_core {p q r : List Str} (h1 : comL p r ≤ comL p q) (h2 : comL q r ≤ comL p q) :
    farN p (p.take (comL p q)) + farN (p.take (comL p q)) q = farN p q ∧ farN p (p.take (comL p q)) + farN (p.take (comL p q)) r = farN p r ∧ farN q (p.take (comL p q)) + farN (p.take (comL p q)) r = farN q r := by
  refine NoI.keep (fun _ wNoI => ?_) ?_
  simp only [↓ NoI.wrOf wNoI (by
  clear wNoI
  have a1 := comL_le p q
  have a2 := comL_le p r
  have a3 := comL_le q r
  have u1 := com_ultra p q r
  have u2 := com_ultra q p r
  rw [comL_comm q p] at u2
  have c1 : comL p (p.take (comL p q)) = comL p q := com_pre (by rw [comL_self]; exact a1.1)
  have c2 : comL q (p.take (comL p q)) = comL p q := by
    rw [com_pre]
    rw [comL_comm q p]
    exact Nat.le_refl _
  have c3 : comL r (p.take (comL p q)) = comL p r := by
    rw [com_cut] <;> rw [comL_comm r p]
    exact h1
  have l := len_com p q
  simp only [farN_eq, comL_comm (p.take (comL p q)) q, comL_comm (p.take (comL p q)) r, c1, c2, c3, l]
  omega
  )]
  intro _ hNoI
  simpa using (fun (_ : NoI.Sg) => hNoI) [5]
theorem farN_comm (a b : List Str) : farN a b = farN b a := by
  rw [farN_eq, farN_eq, comL_comm]
  omega
theorem med_far (a b c : List Str) : farN a (medW a b c) + farN (medW a b c) b = farN a b ∧ farN b (medW a b c) + farN (medW a b c) c = farN b c ∧ farN a (medW a b c) + farN (medW a b c) c = farN a c := by
  refine NoI.keep (fun _ wNoI => ?_) ?_
  simp only [↓ NoI.wrOf wNoI (by
  clear wNoI
  rcases med_cases a b c with ⟨e, h1, h2⟩ | ⟨e, h1, h2⟩ | ⟨e, h1, h2⟩
  · rw [e]
    obtain ⟨m1, m2, m3⟩ := med_core (p := a) (q := b) (r := c) h1 h2
    exact ⟨m1, m3, m2⟩
  · rw [e]
    obtain ⟨m1, m2, m3⟩ := med_core (p := a) (q := c) (r := b) h1 (by rw [comL_comm c b]; exact h2)
    refine ⟨m2, ?_, m1⟩
    rw [farN_comm b, farN_comm _ c, farN_comm b c]
    omega
  · rw [e]
    obtain ⟨m1, m2, m3⟩ := med_core (p := b) (q := c) (r := a) (by rw [comL_comm b a]; exact h1) (by rw [comL_comm c a]; exact h2)
    refine ⟨?_, m1, ?_⟩
    · rw [farN_comm a, farN_comm _ b, farN_comm a b]
      omega
    · rw [farN_comm a, farN_comm _ c, farN_comm a c]
      omega
  )]
  intro _ hNoI
  simpa using (fun (_ : NoI.Sg) => hNoI) [5]
theorem red_take : ∀ {a : List Str} (k : Nat), Red a → Red (a.take k)
  | [], k, h => by simp [Red]
  | [x], 0, h => trivial
  | [x], k + 1, h => by simp [Red]
  | x :: y :: r, 0, h => trivial
  | x :: y :: r, 1, h => trivial
  | x :: y :: r, k + 2, h => ⟨h.1, red_take (a := y :: r) (k + 1) h.2⟩
theorem med_red {a b c : List Str} (ha : Red a) (hb : Red b) : Red (medW a b c) := by
  rcases med_cases a b c with ⟨e, _⟩ | ⟨e, _⟩ | ⟨e, _⟩ <;> rw [e]
  · exact red_take _ ha
  · exact red_take _ ha
  · exact red_take _ hb
theorem three_one {a b c u v : List Str} (hu : u ∈ threeW a b c) (hv : v ∈ threeW a b c) (h : u.length = v.length) : u = v := by
  refine NoI.keep (fun _ wNoI => ?_) ?_
  simp only [↓ NoI.wrOf wNoI (by
  clear wNoI
  have s1 : (a.take (comL a b)).length = (a.take (comL a c)).length → a.take (comL a b) = a.take (comL a c) := fun h => by
    rw [len_com, len_com] at h
    rw [h]
  have s2 : (a.take (comL a b)).length = (b.take (comL b c)).length → a.take (comL a b) = b.take (comL b c) := fun h => by
    rw [len_com, len_com] at h
    rw [comL_take a b, h]
  have s3 : (a.take (comL a c)).length = (b.take (comL b c)).length → a.take (comL a c) = b.take (comL b c) := fun h => by
    rw [len_com, len_com] at h
    rw [comL_take a c, comL_take b c, h]
  simp only [threeW, List.mem_cons, List.not_mem_nil, or_false] at hu hv
  rcases hu with rfl | rfl | rfl <;> rcases hv with rfl | rfl | rfl
  · rfl
  · exact s1 h
  · exact s2 h
  · exact (s1 h.symm).symm
  · rfl
  · exact s3 h
  · exact (s2 h.symm).symm
  · exact (s3 h.symm).symm
  · rfl
  )]
  intro _ hNoI
  simpa using (fun (_ : NoI.Sg) => hNoI) [5]
theorem med_same {a b c a' b' c' : List Str} (h : ∀ w, w ∈ threeW a' b' c' ↔ w ∈ threeW a b c) : medW a' b' c' = medW a b c := by
  refine NoI.keep (fun _ wNoI => ?_) ?_
  simp only [↓ NoI.wrOf wNoI (by
  clear wNoI
  obtain ⟨m1, m2⟩ := bestW_spec true (ws := threeW a b c) (by simp [threeW])
  obtain ⟨n1, n2⟩ := bestW_spec true (ws := threeW a' b' c') (by simp [threeW])
  simp only [if_true] at m2 n2
  have l1 : (medW a' b' c').length ≤ (medW a b c).length := m2 _ ((h _).mp n1)
  have l2 : (medW a b c).length ≤ (medW a' b' c').length := n2 _ ((h _).mpr m1)
  exact three_one ((h _).mp n1) m1 (by omega)
  )]
  intro _ hNoI
  simpa using (fun (_ : NoI.Sg) => hNoI) [5]
theorem med_swap1 (a b c : List Str) : medW b a c = medW a b c := med_same fun w => by
  simp only [threeW, List.mem_cons, List.not_mem_nil, or_false]
  rw [comL_comm b a, ← comL_take a b]
  constructor <;> (rintro (h | h | h) <;> simp [h])
theorem med_swap2 (a b c : List Str) : medW a c b = medW a b c := med_same fun w => by
  simp only [threeW, List.mem_cons, List.not_mem_nil, or_false]
  rw [comL_comm c b, ← comL_take b c]
  constructor <;> (rintro (h | h | h) <;> simp [h])
theorem two_perm {α : Type} {u v a b : α} (h : [u, v].Perm [a, b]) : (u = a ∧ v = b) ∨ (u = b ∧ v = a) := by
  refine NoI.keep (fun _ wNoI => ?_) ?_
  simp only [↓ NoI.wrOf wNoI (by
  clear wNoI
  have hu : u ∈ [a, b] := h.mem_iff.mp List.mem_cons_self
  simp only [List.mem_cons, List.not_mem_nil, or_false] at hu
  rcases hu with rfl | rfl
  · have := (List.perm_cons u).mp h
    exact .inl ⟨rfl, by simpa using this⟩
  · have := (List.perm_cons u).mp (h.trans (List.Perm.swap u a []))
    exact .inr ⟨rfl, by simpa using this⟩
  )]
  intro _ hNoI
  simpa using (fun (_ : NoI.Sg) => hNoI) [5]
theorem med_perm {a b c u v w : List Str} (h : [u, v, w].Perm [a, b, c]) : medW u v w = medW a b c := by
  refine NoI.keep (fun _ wNoI => ?_) ?_
  simp only [↓ NoI.wrOf wNoI (by
  clear wNoI
  have hu : u ∈ [a, b, c] := h.mem_iff.mp List.mem_cons_self
  simp only [List.mem_cons, List.not_mem_nil, or_false] at hu
  rcases hu with rfl | rfl | rfl
  · rcases two_perm ((List.perm_cons u).mp h) with ⟨rfl, rfl⟩ | ⟨rfl, rfl⟩
    · rfl
    · exact med_swap2 _ _ _
  · rcases two_perm ((List.perm_cons u).mp (h.trans (List.Perm.swap u a [c]))) with ⟨rfl, rfl⟩ | ⟨rfl, rfl⟩
    · exact med_swap1 _ _ _
    · rw [med_swap2]; exact med_swap1 _ _ _
  · rcases two_perm ((List.perm_cons u).mp ((h.trans ((List.Perm.swap u b []).cons a)).trans (List.Perm.swap u a [b]))) with ⟨rfl, rfl⟩ | ⟨rfl, rfl⟩
    · rw [med_swap1]; exact med_swap2 _ _ _
    · rw [med_swap2, med_swap1]; exact med_swap2 _ _ _
  )]
  intro _ hNoI
  simpa using (fun (_ : NoI.Sg) => hNoI) [5]
/-! what lies nearest on all sides -/
abbrev Side := Edge × List Str
def SideOk (s : Side) : Prop := s.2 = upE s.1 ∨ s.2 = s.1.1
def onB (w : List Str) (s : Side) : Bool := begB w (upE s.1) == decide (s.2 = upE s.1)
def insW (ss : List Side) : List (List Str) := (ss.filter fun s => decide (s.2 = upE s.1)).map fun s => s.2
def outW (ss : List Side) : List (List Str) := (ss.filter fun s => decide (s.2 = s.1.1)).map fun s => upE s.1
def topW (ss : List Side) : List Str := bestW true ([] :: insW ss)
def barW (a : List Str) (ss : List Side) : List (List Str) := (outW ss).filter (begB a)
def nearW (a : List Str) (ss : List Side) : Option (List Str) :=
  if ((insW ss).all (begB (topW ss)) && !(outW ss).any (begB (topW ss))) = true then (if begB a (topW ss) = true then (if barW a ss = [] then some a else some (bestW false (barW a ss)).dropLast) else some (topW ss)) else none
theorem up_len (e : Edge) : (upE e).length = e.1.length + 1 := by simp [upE]
theorem up_drop (e : Edge) : (upE e).dropLast = e.1 := by simp [upE]
theorem mem_ins {ss : List Side} {w : List Str} : w ∈ insW ss ↔ ∃ s ∈ ss, s.2 = upE s.1 ∧ w = upE s.1 := by
  refine NoI.keep (fun _ wNoI => ?_) ?_
  simp only [↓ NoI.wrOf wNoI (by
  clear wNoI
  unfold insW
  rw [List.mem_map]
  constructor
  · rintro ⟨s, h, rfl⟩
    obtain ⟨h1, h2⟩ := List.mem_filter.mp h
    exact ⟨s, h1, of_decide_eq_true h2, of_decide_eq_true h2⟩
  · rintro ⟨s, h1, h2, rfl⟩
    exact ⟨s, List.mem_filter.mpr ⟨h1, decide_eq_true h2⟩, h2⟩
  )]
  intro _ hNoI
  simpa using (fun (_ : NoI.Sg) => hNoI) [5]
theorem mem_out {ss : List Side} {w : List Str} : w ∈ outW ss ↔ ∃ s ∈ ss, s.2 = s.1.1 ∧ w = upE s.1 := by
  refine NoI.keep (fun _ wNoI => ?_) ?_
  simp only [↓ NoI.wrOf wNoI (by
  clear wNoI
  unfold outW
  rw [List.mem_map]
  constructor
  · rintro ⟨s, h, rfl⟩
    obtain ⟨h1, h2⟩ := List.mem_filter.mp h
    exact ⟨s, h1, of_decide_eq_true h2, rfl⟩
  · rintro ⟨s, h1, h2, rfl⟩
    exact ⟨s, List.mem_filter.mpr ⟨h1, decide_eq_true h2⟩, rfl⟩
  )]
  intro _ hNoI
  simpa using (fun (_ : NoI.Sg) => hNoI) [5]
theorem on_up {w : List Str} {s : Side} (h : s.2 = upE s.1) : onB w s = begB w (upE s.1) := by
  unfold onB
  rw [decide_eq_true h]
  cases begB w (upE s.1) <;> rfl
theorem on_low {w : List Str} {s : Side} (h : s.2 = s.1.1) : onB w s = !begB w (upE s.1) := by
  refine NoI.keep (fun _ wNoI => ?_) ?_
  simp only [↓ NoI.wrOf wNoI (by
  clear wNoI
  unfold onB
  rw [decide_eq_false fun z => by
    have := congrArg List.length (h.symm.trans z)
    rw [up_len] at this
    omega]
  cases begB w (upE s.1) <;> rfl
  )]
  intro _ hNoI
  simpa using (fun (_ : NoI.Sg) => hNoI) [5]
def goodB (w : List Str) (ss : List Side) : Prop := ∀ s ∈ ss, onB w s = true
theorem good_iff {ss : List Side} (ok : ∀ s ∈ ss, SideOk s) (w : List Str) : goodB w ss ↔ (∀ e ∈ insW ss, begB w e = true) ∧ ∀ o ∈ outW ss, begB w o = false := by
  refine NoI.keep (fun _ wNoI => ?_) ?_
  simp only [↓ NoI.wrOf wNoI (by
  clear wNoI
  constructor
  · intro h
    refine ⟨fun e he => ?_, fun o ho => ?_⟩
    · obtain ⟨s, hs, h1, rfl⟩ := mem_ins.mp he
      have := h s hs
      rwa [on_up h1] at this
    · obtain ⟨s, hs, h1, rfl⟩ := mem_out.mp ho
      have := h s hs
      rw [on_low h1] at this
      simpa using this
  · rintro ⟨h1, h2⟩ s hs
    rcases ok s hs with z | z
    · rw [on_up z]; exact h1 _ (mem_ins.mpr ⟨s, hs, z, rfl⟩)
    · rw [on_low z, h2 _ (mem_out.mpr ⟨s, hs, z, rfl⟩)]; rfl
  )]
  intro _ hNoI
  simpa using (fun (_ : NoI.Sg) => hNoI) [5]
theorem top_spec (ss : List Side) : (topW ss = [] ∨ topW ss ∈ insW ss) ∧ ∀ e ∈ insW ss, e.length ≤ (topW ss).length := by
  refine NoI.keep (fun _ wNoI => ?_) ?_
  simp only [↓ NoI.wrOf wNoI (by
  clear wNoI
  obtain ⟨h1, h2⟩ := bestW_spec true (ws := [] :: insW ss) (by simp)
  refine ⟨List.mem_cons.mp h1, fun e he => ?_⟩
  have := h2 e (List.mem_cons_of_mem _ he)
  rw [if_pos rfl] at this
  exact this
  )]
  intro _ hNoI
  simpa using (fun (_ : NoI.Sg) => hNoI) [5]
theorem cond_of {ss : List Side} (ok : ∀ s ∈ ss, SideOk s) {w : List Str} (h : goodB w ss) : ((insW ss).all (begB (topW ss)) && !(outW ss).any (begB (topW ss))) = true := by
  refine NoI.keep (fun _ wNoI => ?_) ?_
  simp only [↓ NoI.wrOf wNoI (by
  clear wNoI
  obtain ⟨h1, h2⟩ := (good_iff ok w).mp h
  obtain ⟨t1, t2⟩ := top_spec ss
  have ht : begB w (topW ss) = true := by
    rcases t1 with z | z
    · rw [z]; exact beg_nil w
    · exact h1 _ z
  rw [Bool.and_eq_true, Bool.not_eq_true', List.all_eq_true, List.any_eq_false]
  refine ⟨fun e he => beg_both ht (h1 e he) (t2 e he), fun o ho z => ?_⟩
  have := beg_trans ht z
  rw [h2 o ho] at this
  cases this
  )]
  intro _ hNoI
  simpa using (fun (_ : NoI.Sg) => hNoI) [5]
theorem near_none {a : List Str} {ss : List Side} (ok : ∀ s ∈ ss, SideOk s) (h : nearW a ss = none) (w : List Str) : ¬ goodB w ss := fun g => by
  unfold nearW at h
  rw [if_pos (cond_of ok g)] at h
  split at h
  · split at h <;> cases h
  · cases h
theorem near_some {a v : List Str} {ss : List Side} (ok : ∀ s ∈ ss, SideOk s) (h : nearW a ss = some v) :
    v ∈ a :: ss.map (fun s => s.2) ∧ goodB v ss ∧ ∀ w, goodB w ss → w ≠ v → farN a v < farN a w := by
  refine NoI.keep (fun _ wNoI => ?_) ?_
  simp only [↓ NoI.wrOf wNoI (by
  clear wNoI
  unfold nearW at h
  by_cases c : ((insW ss).all (begB (topW ss)) && !(outW ss).any (begB (topW ss))) = true
  rotate_left
  · rw [if_neg c] at h; cases h
  rw [if_pos c] at h
  rw [Bool.and_eq_true, Bool.not_eq_true', List.all_eq_true, List.any_eq_false] at c
  obtain ⟨c1, c2⟩ := c
  obtain ⟨t1, t2⟩ := top_spec ss
  by_cases ha : begB a (topW ss) = true
  rotate_left
  · rw [if_neg ha] at h
    cases h
    have hin : topW ss ∈ insW ss := t1.resolve_left fun z => ha (by rw [z]; exact beg_nil a)
    obtain ⟨s, hs, e1, e2⟩ := mem_ins.mp hin
    refine ⟨List.mem_cons_of_mem _ (List.mem_map.mpr ⟨s, hs, by rw [e2, e1]⟩), (good_iff ok _).mpr ⟨c1, fun o ho => by simpa using c2 o ho⟩, fun w g ne => ?_⟩
    have hw := ((good_iff ok w).mp g).1 _ hin
    have k1 := beg_com.mp hw
    have k2 : comL a (topW ss) ≠ (topW ss).length := fun z => ha (beg_com.mpr z)
    have k3 := comL_le a (topW ss)
    have k4 := com_ultra a w (topW ss)
    have k5 := com_ultra a (topW ss) w
    have k6 := comL_le a w
    rw [comL_comm (topW ss) w] at k5
    have k7 : (topW ss).length < w.length := by
      rcases Nat.lt_or_ge (topW ss).length w.length with z | z
      · exact z
      · exact absurd (beg_eq hw z) ne
    rw [farN_eq, farN_eq]
    omega
  rw [if_pos ha] at h
  by_cases hb : barW a ss = []
  · rw [if_pos hb] at h
    cases h
    refine ⟨List.mem_cons_self, (good_iff ok _).mpr ⟨fun e he => beg_trans ha (c1 e he), fun o ho => ?_⟩, fun w g ne => ?_⟩
    · cases z : begB a o with
      | false => rfl
      | true =>
        have : o ∈ barW a ss := List.mem_filter.mpr ⟨ho, z⟩
        rw [hb] at this
        cases this
    · have k1 := comL_le a w
      rw [farN_eq, farN_eq, comL_self]
      rcases Nat.lt_or_ge 0 ((a.length - comL a w) + (w.length - comL a w)) with z | z
      · omega
      · have e1 : comL a w = w.length := by omega
        exact absurd (beg_eq (beg_com.mpr e1) (by omega)).symm ne
  · rw [if_neg hb] at h
    cases h
    obtain ⟨m1, m2⟩ := bestW_spec false hb
    simp only [Bool.false_eq_true, if_false] at m2
    obtain ⟨m3, m4⟩ := List.mem_filter.mp m1
    obtain ⟨s, hs, e1, e2⟩ := mem_out.mp m3
    generalize hbb : bestW false (barW a ss) = b at m1 m2 m3 m4 e2
    have hv : b.dropLast = s.1.1 := by rw [e2, up_drop]
    have hl : b.length = s.1.1.length + 1 := by rw [e2, up_len]
    have hav : begB a s.1.1 = true := by
      refine beg_trans m4 ?_
      rw [e2]
      simp [begB, upE]
    have htb : (topW ss).length < b.length := by
      rcases Nat.lt_or_ge (topW ss).length b.length with z | z
      · exact z
      · exact absurd (beg_both ha m4 z) (c2 b m3)
    have hvt : begB s.1.1 (topW ss) = true := beg_both hav ha (by omega)
    rw [hv]
    refine ⟨List.mem_cons_of_mem _ (List.mem_map.mpr ⟨s, hs, e1⟩), (good_iff ok _).mpr ⟨fun e he => beg_trans hvt (c1 e he), fun o ho => ?_⟩, fun w g ne => ?_⟩
    · cases z : begB s.1.1 o with
      | false => rfl
      | true =>
        have := m2 o (List.mem_filter.mpr ⟨ho, beg_trans hav z⟩)
        have := beg_len z
        omega
    · have hwb := ((good_iff ok w).mp g).2 b m3
      have k1 := com_ultra w a b
      have k2 : comL w b ≠ b.length := fun z => by rw [beg_com.mpr z] at hwb; cases hwb
      have k3 := beg_com.mp m4
      have k4 := beg_com.mp hav
      have k5 := comL_le a w
      have k6 := comL_le w b
      have k10 := comL_le a s.1.1
      rw [comL_comm w a] at k1
      have k7 : comL a w ≤ s.1.1.length := by omega
      rw [farN_eq, farN_eq, k4]
      rcases Nat.lt_or_ge ((a.length - s.1.1.length) + (s.1.1.length - s.1.1.length)) ((a.length - comL a w) + (w.length - comL a w)) with z | z
      · exact z
      · have e3 : comL a w = w.length := by omega
        have e4 : w.length = s.1.1.length := by omega
        have k8 := com_ultra w a s.1.1
        rw [comL_comm w a, e3, k4, e4, Nat.min_self] at k8
        have k9 := (comL_le w s.1.1).2
        exact absurd (beg_eq (beg_com.mpr (show comL w s.1.1 = s.1.1.length by omega)) (by omega)) ne
  )]
  intro _ hNoI
  simpa using (fun (_ : NoI.Sg) => hNoI) [5]
/-! two sides have a point in common exactly if an end lies on both -/
theorem on_own {s : Side} (h : SideOk s) : onB s.2 s = true := by
  rcases h with z | z
  · rw [on_up z, z]; exact beg_self _
  · rw [on_low z, z, beg_long (by rw [up_len]; omega)]; rfl
def bothW (s t : Side) : List (List Str) := [s.2, t.2].filter fun w => onB w s && onB w t
theorem both_nil {s t : Side} (hs : SideOk s) (ht : SideOk t) : bothW s t = [] ↔ onB s.2 t = false ∧ onB t.2 s = false := by
  unfold bothW
  have h1 := on_own hs
  have h2 := on_own ht
  cases z1 : onB s.2 t <;> cases z2 : onB t.2 s <;> simp [List.filter_cons, h1, h2, z1, z2]
theorem helly {a : List Str} {ss : List Side} (ok : ∀ s ∈ ss, SideOk s) : nearW a ss = none ↔ ∃ s ∈ ss, ∃ t ∈ ss, bothW s t = [] := by
  refine NoI.keep (fun _ wNoI => ?_) ?_
  simp only [↓ NoI.wrOf wNoI (by
  clear wNoI
  constructor
  · intro h
    obtain ⟨t1, t2⟩ := top_spec ss
    have c : ¬ ((insW ss).all (begB (topW ss)) && !(outW ss).any (begB (topW ss))) = true := fun c => by
      unfold nearW at h
      rw [if_pos c] at h
      split at h
      · split at h <;> cases h
      · cases h
    rw [Bool.and_eq_true, Bool.not_eq_true', List.all_eq_true, List.any_eq_false] at c
    by_cases c1 : ∀ e ∈ insW ss, begB (topW ss) e = true
    · obtain ⟨o, ho, hb⟩ : ∃ o ∈ outW ss, begB (topW ss) o = true := by
        rcases Classical.em (∃ o ∈ outW ss, begB (topW ss) o = true) with z | z
        · exact z
        · exact absurd ⟨c1, fun o ho hb => z ⟨o, ho, hb⟩⟩ c
      obtain ⟨t, ht, e1, e2⟩ := mem_out.mp ho
      have lo := beg_len hb
      rw [e2, up_len] at lo
      have hin : topW ss ∈ insW ss := t1.resolve_left fun z => by rw [z] at lo; simp at lo
      obtain ⟨s, hs, e3, e4⟩ := mem_ins.mp hin
      refine ⟨s, hs, t, ht, (both_nil (ok s hs) (ok t ht)).mpr ⟨?_, ?_⟩⟩
      · rw [on_low e1, e3, ← e4, ← e2, hb]; rfl
      · rw [on_up e3, ← e4, e1]
        exact beg_long (by omega)
    · obtain ⟨e, he, hb⟩ : ∃ e ∈ insW ss, begB (topW ss) e = false := by
        rcases Classical.em (∃ e ∈ insW ss, begB (topW ss) e = false) with z | z
        · exact z
        · exact absurd (fun e he => by
            cases y : begB (topW ss) e with
            | true => rfl
            | false => exact absurd ⟨e, he, y⟩ z) c1
      have lt := t2 e he
      obtain ⟨t, ht, e1, e2⟩ := mem_ins.mp he
      have hin : topW ss ∈ insW ss := t1.resolve_left fun z => by rw [z, e2, up_len] at lt; simp at lt
      obtain ⟨s, hs, e3, e4⟩ := mem_ins.mp hin
      refine ⟨s, hs, t, ht, (both_nil (ok s hs) (ok t ht)).mpr ⟨?_, ?_⟩⟩
      · rw [on_up e1, e3, ← e4, ← e2]; exact hb
      · rw [on_up e3, ← e4, e1, ← e2]
        cases y : begB e (topW ss) with
        | false => rfl
        | true =>
          have := beg_eq y lt
          rw [← this, beg_self] at hb
          cases hb
  · rintro ⟨s, hs, t, ht, hb⟩
    cases hn : nearW a ss with
    | none => rfl
    | some v =>
      exfalso
      obtain ⟨_, g, _⟩ := near_some ok hn
      obtain ⟨b1, b2⟩ := (both_nil (ok s hs) (ok t ht)).mp hb
      have gs := g s hs
      have gt := g t ht
      rcases ok s hs with es | es <;> rcases ok t ht with et | et
      · rw [on_up et, es] at b1
        rw [on_up es, et] at b2
        rw [on_up es] at gs
        rw [on_up et] at gt
        rcases Nat.le_total (upE t.1).length (upE s.1).length with z | z
        · rw [beg_both gs gt z] at b1; cases b1
        · rw [beg_both gt gs z] at b2; cases b2
      · rw [on_low et, es] at b1
        rw [on_up es] at gs
        rw [on_low et] at gt
        have b1 : begB (upE s.1) (upE t.1) = true := by simpa using b1
        rw [beg_trans gs b1] at gt
        cases gt
      · rw [on_low es, et] at b2
        rw [on_low es] at gs
        rw [on_up et] at gt
        have b2 : begB (upE t.1) (upE s.1) = true := by simpa using b2
        rw [beg_trans gt b2] at gs
        cases gs
      · rw [on_low et, es] at b1
        rw [on_low es, et] at b2
        have b1 : begB s.1.1 (upE t.1) = true := by simpa using b1
        have b2 : begB t.1.1 (upE s.1) = true := by simpa using b2
        have l1 := beg_len b1
        have l2 := beg_len b2
        rw [up_len] at l1 l2
        omega
  )]
  intro _ hNoI
  simpa using (fun (_ : NoI.Sg) => hNoI) [5]
end LW

/-! medians and sides, as the program has them -/
namespace LW
open PySem PySem.Spec PyProof.Rows L2 SH
variable [WW]
def sideD (s : Side) : D := .tuple [edgeD s.1, .tuple (dS s.2)]
structure SdOk (s : Side) : Prop where
  nm : NamesOk s.1.1
  sv : NameOk s.1.2
  ln : s.1.1.length ≤ 100
  ok : SideOk s
def nearD (a : List Str) (ss : List Side) : D := match nearW a ss with
  | some w => .tuple (dS w)
  | none => .none
def C_median_word : Ct := fun svs m Ψ => ∃ a b c : List Str, svs = [.dat (.tuple (dS a)), .dat (.tuple (dS b)), .dat (.tuple (dS c))] ∧ m = [] ∧ WoOk a ∧ WoOk b ∧ WoOk c ∧ ∀ m', Ψ (.dat (.tuple (dS (medW a b c)))) m'
def C_nearest : Ct := fun svs m Ψ => ∃ (a : List Str) (ss : List Side) (d : D), svs = [.dat (.tuple (dS a)), .dat d] ∧ m = [] ∧ itemsD d = some (ss.map sideD) ∧ WoOk a ∧ (∀ s ∈ ss, SdOk s) ∧ ss.length ≤ 1000 ∧ ∀ m', Ψ (.dat (nearD a ss)) m'
def C__law_far : Ct := fun svs m Ψ => ∃ a b : List Str, svs = [.dat (.tuple (dS a)), .dat (.tuple (dS b))] ∧ m = [] ∧ a.length ≤ 100000 ∧ b.length ≤ 100000 ∧ ∀ m', Ψ (.dat (.int (farN a b : Int))) m'
def C__law_is_on_side : Ct := fun svs m Ψ => ∃ (w : List Str) (s : Side), svs = [.dat (.tuple (dS w)), .dat (edgeD s.1), .dat (.tuple (dS s.2))] ∧ m = [] ∧ WoOk w ∧ SdOk s ∧ ∀ m', Ψ (.dat (.bool (onB w s))) m'
def C__law_sides : Ct := fun svs m Ψ => ∃ (b : Bag) (T : Nat) (xs a : List Str), svs = [.own 0, .dat (namesD xs), .dat (.tuple (dS a))] ∧ m = [some b.d] ∧ WB (T + 200) b ∧ NmOk xs ∧ NamesOk a ∧ a.length ≤ 20 ∧
  ∀ m' (ss : List Side) (b' : Bag), (∀ s ∈ ss, SdOk s ∧ s.1.1.length ≤ 30) → ss.length ≤ 6 → WB T b' → m'[0]? = some (some b'.d) → Ψ (.dat (.list (ss.map sideD))) m'
end LW

namespace LW
open PySem PySem.Spec PyProof.Rows L2 SH
variable [WW]
def t_median_word (K : PySem.W.Frag) : TS :=
  (tSeq (tAsg (tTupF (tCons (tTupF (tCons (tVar 0) (tCons (tVar 1) tNil))) (tCons (tTupF (tCons (tVar 0) (tCons (tVar 2) tNil))) (tCons (tTupF (tCons (tVar 1) (tCons (tVar 2) tNil))) tNil)))) (gName 3))
  (tRet (tBestL K true (tCons (tLc (iSeq K (tVar 3)) (gTup K 2 (gCons (gName 4) (gCons (gName 5) gNil))) tYes (tSl (rSlU K) (tVar 4) tNoPart (tPart (tCall (spP K C_common_length) [] E0 (tCons (tVar 4) (tCons (tVar 5) tNil))))) [4, 5]) tNil))))
def t_nearest (K : PySem.W.Frag) : TS :=
  (tSeq (tAsg (tLc (iSeq K (tVar 1)) (gTup K 2 (gCons (gName 6) (gCons (gName 7) gNil))) (tTest (tOp (rEqU K) (tVar 7) (tCall (spP K C_longer_end) [] E0 (tCons (tVar 6) tNil)))) (tVar 7) [6, 7]) (gName 2))
  (tSeq (tAsg (tLc (iSeq K (tVar 1)) (gTup K 2 (gCons (gName 6) (gCons (gName 7) gNil))) (tTest (tOp (rEqU K) (tVar 7) (tOp (rIxU K) (tVar 6) (tC (.int 0))))) (tCall (spP K C_longer_end) [] E0 (tCons (tVar 6) tNil)) [6, 7]) (gName 3))
  (tSeq (tAsg (tBestL K true (tCons (tLst (tCons (tTupF tNil) (StX.tStar K (tVar 2) tNil))) tNil)) (gName 4))
  (tSeq (tIfS (tOr (tNot (tTru K (tCB (rAll K) (tCons (tLc (iSeq K (tVar 2)) (gName 8) tYes (tCall (spP K C_begins_with) [] E0 (tCons (tVar 4) (tCons (tVar 8) tNil))) [8]) tNil)))) (tTru K (tCB (rAny K) (tCons (tLc (iSeq K (tVar 3)) (gName 8) tYes (tCall (spP K C_begins_with) [] E0 (tCons (tVar 4) (tCons (tVar 8) tNil))) [8]) tNil))))
    (tRet (tC .non))
    tNext)
  (tSeq (tIfS (tNot (tTru K (tCall (spP K C_begins_with) [] E0 (tCons (tVar 0) (tCons (tVar 4) tNil)))))
    (tRet (tVar 4))
    tNext)
  (tSeq (tAsg (tLc (iSeq K (tVar 3)) (gName 8) (tTru K (tCall (spP K C_begins_with) [] E0 (tCons (tVar 0) (tCons (tVar 8) tNil)))) (tVar 8) [8]) (gName 5))
  (tRet (tIf (tTru K (tVar 5)) (tSl (rSlU K) (tBestL K false (tCons (tVar 5) tNil)) tNoPart (tPart (tUn (rU fun i => .int (-i)) (tC (.int 1))))) (tVar 0)))))))))
def t__law_far (K : PySem.W.Frag) : TS :=
  (tRet (tCB (rLenU K) (tCons (tCall (spP K C__law_way) [] E0 (tCons (tVar 0) (tCons (tVar 1) tNil))) tNil)))
def t__law_is_on_side (K : PySem.W.Frag) : TS :=
  (tSeq (tAsg (tOp (rAddU K) (tOp (rIxU K) (tVar 1) (tC (.int 0))) (tTupF (tCons (tOp (rIxU K) (tVar 1) (tC (.int 1))) tNil))) (gName 3))
  (tRet (tOp (rEqU K) (tOp (rEqU K) (tSl (rSlU K) (tVar 0) tNoPart (tPart (tCB (rLenU K) (tCons (tVar 3) tNil)))) (tVar 3)) (tOp (rEqU K) (tVar 2) (tVar 3)))))
def t__law_sides (K : PySem.W.Frag) : TS :=
  (tSeq (tPar 3 4 (tCons (tCall (spP K C__law_reduced) [] E0 (tCons (tOp (rAddU K) (tSl (rSlU K) (tVar 2) tNoPart (tPart (tCall (spP K C__law_take) [] E0 (tCons (tVar 0) (tCons (tOp (rAddU K) (tCB (rLenU K) (tCons (tVar 2) tNil)) (tC (.int 1))) tNil))))) (tCall (spP K C__law_any_wordN) [] E0 (tCons (tVar 0) (tCons (tVar 1) (tCons (tC (.int 5)) tNil))))) tNil)) (tCons (tLst tNil) tNil)))
  (tSeq (tFor (iRng1 (tCons (tCall (spP K C__law_some) [] E0 (tCons (tVar 0) (tCons (tLst (tCons (tC (.int 2)) (tCons (tC (.int 0)) (tCons (tC (.int 1)) (tCons (tC (.int 3)) (tCons (tC (.int 6)) tNil)))))) tNil))) tNil)) (gName 5)
    (tSeq (tAsg (tCall (spP K C__law_some) [] E0 (tCons (tVar 0) (tCons (tLst (tCons (tVar 3) (tCons (tVar 2) (tCons (tVar 3) tNil)))) tNil))) (gName 6))
  (tSeq (tAsg (tSl (rSlU K) (tVar 6) tNoPart (tPart (tCall (spP K C__law_take) [] E0 (tCons (tVar 0) (tCons (tOp (rAddU K) (tCB (rLenU K) (tCons (tVar 6) tNil)) (tC (.int 1))) tNil))))) (gName 6))
  (tSeq (tAsg (tLc (iSeq K (tOp (rIxU K) (tVar 1) (tC (.int 0)))) (gName 11) (tTest (tOp (rNeU K) (tSl (rSlU K) (tVar 6) (tPart (tUn (rU fun i => .int (-i)) (tC (.int 1)))) tNoPart) (tTupF (tCons (tVar 11) tNil)))) (tVar 11) [11]) (gName 7))
  (tIfS (tTest (tOp (rNeU K) (tVar 7) (tLst tNil)))
    (tSeq (tAsg (tTupF (tCons (tVar 6) (tCons (tCall (spP K C__law_some) [] E0 (tCons (tVar 0) (tCons (tVar 7) tNil))) tNil))) (gName 8))
  (tSeq (tAsg (tOp (rAddU K) (tVar 6) (tTupF (tCons (tOp (rIxU K) (tVar 8) (tC (.int 1))) tNil))) (gName 9))
  (tSeq (tAsg (tIf (tTest (tOp (rEqU K) (tSl (rSlU K) (tVar 3) tNoPart (tPart (tCB (rLenU K) (tCons (tVar 9) tNil)))) (tVar 9))) (tVar 9) (tVar 6)) (gName 10))
  (tSeq (tAsg (tIf (tTest (tOp (rEqU K) (tCall (spP K C__law_take) [] E0 (tCons (tVar 0) (tCons (tC (.int 5)) tNil))) (tC (.int 0)))) (tCall (spP K C__law_some) [] E0 (tCons (tVar 0) (tCons (tLst (tCons (tVar 6) (tCons (tVar 9) tNil))) tNil))) (tVar 10)) (gName 10))
  (tDrop (tBM K "list" rAppend (tVar 4) (tCons (tTupF (tCons (tVar 8) (tCons (tVar 10) tNil))) tNil)))))))
    tNext)))))
  (tRet (tVar 4))))
end LW


namespace LW
open PySem PySem.Spec PyProof.Rows L2 SH
variable [WW]
def wD (w : List Str) : D := .tuple (dS w)
def insG : D → Option D
  | .tuple [.tuple [.tuple w, .str x], .tuple t] => if PyData.eqv (.tuple t) (.tuple (w ++ [.str x])) = true then some (.tuple t) else none
  | _ => none
def outG : D → Option D
  | .tuple [.tuple [.tuple w, .str x], .tuple t] => if PyData.eqv (.tuple t) (.tuple w) = true then some (.tuple (w ++ [.str x])) else none
  | _ => none
theorem dS_snoc (w : List Str) (x : Str) : dS w ++ [.str x] = dS (w ++ [x]) := by simp [dS]
theorem insG_one (s : Side) : insG (sideD s) = if s.2 = upE s.1 then some (wD s.2) else none := by
  refine NoI.keep (fun _ wNoI => ?_) ?_
  simp only [↓ NoI.wrOf wNoI (by
  clear wNoI
  show (if PyData.eqv (.tuple (dS s.2)) (.tuple (dS s.1.1 ++ [.str s.1.2])) = true then _ else _) = _
  rw [dS_snoc, eqv_dS]
  simp only [decide_eq_true_eq]
  rfl
  )]
  intro _ hNoI
  simpa using (fun (_ : NoI.Sg) => hNoI) [5]
theorem outG_one (s : Side) : outG (sideD s) = if s.2 = s.1.1 then some (wD (upE s.1)) else none := by
  refine NoI.keep (fun _ wNoI => ?_) ?_
  simp only [↓ NoI.wrOf wNoI (by
  clear wNoI
  show (if PyData.eqv (.tuple (dS s.2)) (.tuple (dS s.1.1)) = true then some (PyData.tuple (dS s.1.1 ++ [.str s.1.2])) else _) = _
  rw [dS_snoc, eqv_dS]
  simp only [decide_eq_true_eq]
  rfl
  )]
  intro _ hNoI
  simpa using (fun (_ : NoI.Sg) => hNoI) [5]
theorem insG_all : ∀ ss : List Side, (ss.map sideD).filterMap insG = (insW ss).map wD
  | [] => rfl
  | s :: ss => by
    have ih := insG_all ss
    rw [List.map_cons, List.filterMap_cons, insG_one]
    unfold insW at ih ⊢
    by_cases c : s.2 = upE s.1
    · rw [if_pos c, List.filter_cons_of_pos (by simpa using c), List.map_cons, List.map_cons, ← ih]
    · rw [if_neg c, List.filter_cons_of_neg (by simpa using c), ← ih]
theorem outG_all : ∀ ss : List Side, (ss.map sideD).filterMap outG = (outW ss).map wD
  | [] => rfl
  | s :: ss => by
    have ih := outG_all ss
    rw [List.map_cons, List.filterMap_cons, outG_one]
    unfold outW at ih ⊢
    by_cases c : s.2 = s.1.1
    · rw [if_pos c, List.filter_cons_of_pos (by simpa using c), List.map_cons, List.map_cons, ← ih]
    · rw [if_neg c, List.filter_cons_of_neg (by simpa using c), ← ih]
theorem SdOk.edge {s : Side} (h : SdOk s) : EdgeOk s.1 := ⟨h.nm, h.sv, Nat.le_trans h.ln (by decide)⟩
theorem SdOk.endW {s : Side} (h : SdOk s) : NamesOk s.2 ∧ s.2.length ≤ 101 := by
  have h1 := up_ok h.edge
  have h2 := h.ln
  rcases h.ok with z | z <;> rw [z]
  · exact ⟨h1.1, by rw [up_len]; omega⟩
  · exact ⟨h.nm, by omega⟩
theorem wp__law_far {K : PySem.W.Frag} : ∀ Zc svs m Ψ, C__law_far svs m Ψ → ExS K Zc m.length (t__law_far K) ⟨svs ++ List.replicate (2 - svs.length) .un, m⟩ (retE Ψ) := by
  refine NoI.keep (fun _ wNoI => ?_) ?_
  simp only [↓ NoI.wrOf wNoI (by
  clear wNoI
  rintro Zc _ _ Ψ ⟨a, b, rfl, rfl, la, lb, k⟩
  unfold t__law_far
  show ExS _ _ _ _ ⟨[.dat (.tuple (dS a)), .dat (.tuple (dS b))], []⟩ _
  walk_at "go"
  refine ⟨a, b, rfl, rfl, la, lb, fun m' i hm => ?_⟩
  show (match m'[i]? with | some (some ds) => _ | _ => False)
  rw [hm]
  walk_at "go"
  rw [List.length_map]
  exact k _
  )]
  intro _ hNoI
  simpa using (fun (_ : NoI.Sg) => hNoI) [5]
theorem wp__law_is_on_side {K : PySem.W.Frag} : ∀ Zc svs m Ψ, C__law_is_on_side svs m Ψ → ExS K Zc m.length (t__law_is_on_side K) ⟨svs ++ List.replicate (4 - svs.length) .un, m⟩ (retE Ψ) := by
  refine NoI.keep (fun _ wNoI => ?_) ?_
  simp only [↓ NoI.wrOf wNoI (by
  clear wNoI
  rintro Zc _ _ Ψ ⟨w, ⟨⟨u, x⟩, t⟩, rfl, rfl, hw, hs, k⟩
  unfold t__law_is_on_side
  show ExS _ _ _ _ ⟨[.dat (.tuple (dS w)), .dat (.tuple [.tuple (dS u), .str x]), .dat (.tuple (dS t)), .un], []⟩ _
  have hl := hs.ln
  have hu := up_ok hs.edge
  have ht := hs.endW
  simp only at hl ht
  walk_at "go"
  rotate_left
  · rw [dS_len, sizeLine_eq]; simp; omega
  rw [dS_snoc, dS_len, cut_tS]
  refine os_eqW rfl rfl (fun x hx => hw.1 x (List.mem_of_mem_take hx)) hu.1 ?_
  walk_at "go"
  refine os_eqW rfl rfl ht.1 hu.1 ?_
  refine os_eqBo rfl rfl ?_
  exact k _
  )]
  intro _ hNoI
  simpa using (fun (_ : NoI.Sg) => hNoI) [5]
theorem med_at {a b c : List Str} (ha : WoOk a) (hb : WoOk b) (hc : WoOk c) {i : Nat} {d e : D}
    (hd : ([.tuple [.tuple (dS a), .tuple (dS b)], .tuple [.tuple (dS a), .tuple (dS c)], .tuple [.tuple (dS b), .tuple (dS c)]] : List D)[i]? = some d) (he : ((threeW a b c).map wD)[i]? = some e) :
    ∃ u v, WoOk u ∧ WoOk v ∧ d = .tuple [.tuple (dS u), .tuple (dS v)] ∧ e = wD (u.take (comL u v)) := by
  refine NoI.keep (fun _ wNoI => ?_) ?_
  simp only [↓ NoI.wrOf wNoI (by
  clear wNoI
  match i, hd, he with
  | 0, hd, he => cases hd; cases he; exact ⟨a, b, ha, hb, rfl, rfl⟩
  | 1, hd, he => cases hd; cases he; exact ⟨a, c, ha, hc, rfl, rfl⟩
  | 2, hd, he => cases hd; cases he; exact ⟨b, c, hb, hc, rfl, rfl⟩
  | n + 3, hd, he => cases hd
  )]
  intro _ hNoI
  simpa using (fun (_ : NoI.Sg) => hNoI) [5]
theorem words_map (ws : List (List Str)) : ws.map wD = (ws.map dS).map .tuple := by rw [List.map_map]; rfl
theorem wp_median_word {K : PySem.W.Frag} : ∀ Zc svs m Ψ, C_median_word svs m Ψ → ExS K Zc m.length (t_median_word K) ⟨svs ++ List.replicate (6 - svs.length) .un, m⟩ (retE Ψ) := by
  refine NoI.keep (fun _ wNoI => ?_) ?_
  simp only [↓ NoI.wrOf wNoI (by
  clear wNoI
  rintro Zc _ _ Ψ ⟨a, b, c, rfl, rfl, ha, hb, hc, k⟩
  unfold t_median_word
  show ExS _ _ _ _ ⟨[.dat (.tuple (dS a)), .dat (.tuple (dS b)), .dat (.tuple (dS c)), .un, .un, .un], []⟩ _
  have la := ha.2
  have lb := hb.2
  have lc := hc.2
  walk_at "go"
  refine ev_bestL ?_
  walk_at "go"
  refine ev_lcT (gw_pair (by simp) (by simp)) (it_seq ?_)
  walk_at "go"
  refine ⟨_, rfl, (threeW a b c).map wD, rfl, by simp [threeW], ?_, ?_⟩
  · rintro i d e m' hd he rfl
    obtain ⟨u, v, hu, hv, rfl, rfl⟩ := med_at ha hb hc hd he
    have lu := hu.2
    have lv := hv.2
    walk_at "go"
    refine use_comL (by omega) (by omega) ?_
    walk_at "go"
    rw [cut_tS]
    exact ⟨rfl, Wk.of (by walk_at "wk") (by walk_at "wk")⟩
  · walk_at "go"
    refine ⟨(threeW a b c).map dS, by rw [words_map], by simp [threeW], ?_⟩
    rw [best_dS]
    exact k _
  )]
  intro _ hNoI
  simpa using (fun (_ : NoI.Sg) => hNoI) [5]
end LW


namespace LW
open PySem PySem.Spec PyProof.Rows L2 SH
variable [WW]
theorem ins_ok {ss : List Side} (h : ∀ s ∈ ss, SdOk s) {w : List Str} (hw : w ∈ insW ss) : NamesOk w ∧ w.length ≤ 101 := by
  obtain ⟨s, hs, e, rfl⟩ := mem_ins.mp hw
  rw [← e]
  exact (h s hs).endW
theorem out_ok {ss : List Side} (h : ∀ s ∈ ss, SdOk s) {w : List Str} (hw : w ∈ outW ss) : NamesOk w ∧ w.length ≤ 101 := by
  obtain ⟨s, hs, e, rfl⟩ := mem_out.mp hw
  have := (h s hs).ln
  exact ⟨(up_ok (h s hs).edge).1, by rw [up_len]; omega⟩
theorem ins_len (ss : List Side) : (insW ss).length ≤ ss.length := by
  unfold insW
  rw [List.length_map]
  exact List.length_filter_le _ _
theorem out_len (ss : List Side) : (outW ss).length ≤ ss.length := by
  unfold outW
  rw [List.length_map]
  exact List.length_filter_le _ _
theorem top_ok {ss : List Side} (h : ∀ s ∈ ss, SdOk s) : WoOk (topW ss) := by
  rcases (top_spec ss).1 with z | z
  · rw [z]; exact ⟨by nofun, by simp⟩
  · have := ins_ok h z
    exact ⟨this.1, by omega⟩
theorem side_at {ss : List Side} {i : Nat} {d : D} (h : (ss.map sideD)[i]? = some d) : ∃ s ∈ ss, d = .tuple [.tuple [.tuple (dS s.1.1), .str s.1.2], .tuple (dS s.2)] := by
  rw [List.getElem?_map] at h
  obtain ⟨s, hs, rfl⟩ := Option.map_eq_some_iff.mp h
  exact ⟨s, List.mem_of_getElem? hs, rfl⟩
def begG (a : List Str) : D → Option D
  | .tuple t => if PyData.eqv (.tuple ((dS a).take t.length)) (.tuple t) = true then some (.tuple t) else none
  | _ => none
theorem begG_one (a w : List Str) : begG a (wD w) = if begB a w = true then some (wD w) else none := by
  show (if PyData.eqv (.tuple ((dS a).take (dS w).length)) (.tuple (dS w)) = true then _ else _) = _
  rw [dS_len, dS_take, eqv_dS]
  rfl
theorem begG_all (a : List Str) : ∀ ws : List (List Str), (ws.map wD).filterMap (begG a) = (ws.filter (begB a)).map wD
  | [] => rfl
  | w :: ws => by
    rw [List.map_cons, List.filterMap_cons, begG_one]
    by_cases c : begB a w = true
    · rw [if_pos c, List.filter_cons_of_pos c, List.map_cons, begG_all a ws]
    · rw [if_neg c, List.filter_cons_of_neg c, begG_all a ws]
set_option maxHeartbeats 0 in
theorem wp_nearest {K : PySem.W.Frag} : ∀ Zc svs m Ψ, C_nearest svs m Ψ → ExS K Zc m.length (t_nearest K) ⟨svs ++ List.replicate (9 - svs.length) .un, m⟩ (retE Ψ) := by
  refine NoI.keep (fun _ wNoI => ?_) ?_
  simp only [↓ NoI.wrOf wNoI (by
  clear wNoI
  rintro Zc _ _ Ψ ⟨a, ss, d, rfl, rfl, hd, ha, hs, hl, k⟩
  unfold t_nearest
  show ExS _ _ _ _ ⟨[.dat (.tuple (dS a)), .dat d, .un, .un, .un, .un, .un, .un, .un], []⟩ _
  have li := ins_len ss
  have lo := out_len ss
  refine ex_cut (fun s => s = ⟨[.dat (.tuple (dS a)), .dat d, .own 0, .un, .un, .un, .un, .un, .un], [some (.list ((insW ss).map wD))]⟩) ?_ ?_
  · walk_at "go"
    refine ev_lcF (gw_pair (by simp) (by simp)) (it_seq ?_)
    walk_at "go"
    refine ⟨_, hd, insG, by rw [List.length_map]; omega, ?_, ?_⟩
    · rintro i e m' he rfl
      obtain ⟨s, hm, rfl⟩ := side_at he
      have hsk := hs s hm
      walk_at "go"
      refine use_longer (e := s.1) hsk.edge ?_
      walk_at "go"
      refine os_eqW rfl rfl hsk.endW.1 (up_ok hsk.edge).1 ?_
      walk_at "go"
      refine ⟨fun h => ⟨wD s.2, by rw [show (PyData.tuple [PyData.tuple [PyData.tuple (dS s.1.1), PyData.str s.1.2], PyData.tuple (dS s.2)]) = sideD s from rfl, insG_one, if_pos (of_decide_eq_true h)], ?_⟩, fun h => ⟨by rw [show (PyData.tuple [PyData.tuple [PyData.tuple (dS s.1.1), PyData.str s.1.2], PyData.tuple (dS s.2)]) = sideD s from rfl, insG_one, if_neg (of_decide_eq_false h)], Wk.of (by walk_at "wk") (by walk_at "wk")⟩⟩
      walk_at "go"
      exact ⟨rfl, Wk.of (by walk_at "wk") (by walk_at "wk")⟩
    · walk_at "go"
      rw [insG_all]
      exact To.of _ rfl (by walk_at "wk") (by walk_at "wk") (by simp)
  rintro _ rfl _
  refine ex_fz (i := 0) rfl ?_
  walk_at "nrm"
  refine ex_wk (s1 := ⟨[.dat (.tuple (dS a)), .dat d, .dat (.list ((insW ss).map wD)), .un, .un, .un, .un, .un, .un], []⟩) (Wk.of (by walk_at "wk") (by walk_at "wk")) (by simp) ?_
  refine ex_cut (fun s => s = ⟨[.dat (.tuple (dS a)), .dat d, .dat (.list ((insW ss).map wD)), .own 0, .un, .un, .un, .un, .un], [some (.list ((outW ss).map wD))]⟩) ?_ ?_
  · walk_at "go"
    refine ev_lcF (gw_pair (by simp) (by simp)) (it_seq ?_)
    walk_at "go"
    refine ⟨_, hd, outG, by rw [List.length_map]; omega, ?_, ?_⟩
    · rintro i e m' he rfl
      obtain ⟨s, hm, rfl⟩ := side_at he
      have hsk := hs s hm
      walk_at "go"
      refine os_eqW rfl rfl hsk.endW.1 hsk.nm ?_
      walk_at "go"
      refine ⟨fun h => ⟨wD (upE s.1), by rw [show (PyData.tuple [PyData.tuple [PyData.tuple (dS s.1.1), PyData.str s.1.2], PyData.tuple (dS s.2)]) = sideD s from rfl, outG_one, if_pos (of_decide_eq_true h)], ?_⟩, fun h => ⟨by rw [show (PyData.tuple [PyData.tuple [PyData.tuple (dS s.1.1), PyData.str s.1.2], PyData.tuple (dS s.2)]) = sideD s from rfl, outG_one, if_neg (of_decide_eq_false h)], Wk.of (by walk_at "wk") (by walk_at "wk")⟩⟩
      walk_at "go"
      refine use_longer (e := s.1) hsk.edge ?_
      walk_at "go"
      exact ⟨rfl, Wk.of (by walk_at "wk") (by walk_at "wk")⟩
    · walk_at "go"
      rw [outG_all]
      exact To.of _ rfl (by walk_at "wk") (by walk_at "wk") (by simp)
  rintro _ rfl _
  refine ex_fz (i := 0) rfl ?_
  walk_at "nrm"
  refine ex_wk (s1 := ⟨[.dat (.tuple (dS a)), .dat d, .dat (.list ((insW ss).map wD)), .dat (.list ((outW ss).map wD)), .un, .un, .un, .un, .un], []⟩) (Wk.of (by walk_at "wk") (by walk_at "wk")) (by simp) ?_
  refine ex_cut (fun s => s = ⟨[.dat (.tuple (dS a)), .dat d, .dat (.list ((insW ss).map wD)), .dat (.list ((outW ss).map wD)), .dat (.tuple (dS (topW ss))), .un, .un, .un, .un], []⟩) ?_ ?_
  · walk_at "go"
    refine ev_bestL ?_
    walk_at "go"
    refine ⟨_, rfl, ?_⟩
    walk_at "go"
    have ew : (PyData.tuple [] :: ((insW ss).map wD ++ [])) = (([] : List D) :: (insW ss).map dS).map .tuple := by rw [List.append_nil, words_map]; rfl
    refine ⟨_, congrArg (fun x => [PyData.list x]) ew, by simp, ?_⟩
    have e : bestD true ([] :: (insW ss).map dS) = dS (topW ss) := best_dS true ([] :: insW ss)
    rw [e]
    walk_at "go"
    exact To.of _ rfl (by walk_at "wk") (by walk_at "wk") (by simp)
  rintro _ rfl _
  have ht := top_ok hs
  refine ex_cut (fun s => ((insW ss).all (begB (topW ss)) && !(outW ss).any (begB (topW ss))) = true ∧ s = ⟨[.dat (.tuple (dS a)), .dat d, .dat (.list ((insW ss).map wD)), .dat (.list ((outW ss).map wD)), .dat (.tuple (dS (topW ss))), .un, .un, .un, .un], []⟩) ?_ ?_
  · have hno : ((insW ss).all (begB (topW ss)) && !(outW ss).any (begB (topW ss))) = false → nearD a ss = .none := fun h => by
      unfold nearD nearW
      rw [if_neg (by rw [h]; exact Bool.false_ne_true)]
    walk_at "go"
    refine ev_lcP (it_seq ?_)
    walk_at "go"
    refine ⟨_, rfl, ((insW ss).map (begB (topW ss))).map .bool, by simp, by simp; omega, ?_, ?_⟩
    · rintro i e f m' he hf rfl
      rw [List.getElem?_map] at he
      obtain ⟨w, hw, rfl⟩ := Option.map_eq_some_iff.mp he
      rw [List.getElem?_map, List.getElem?_map, hw] at hf
      cases hf
      have hwk := ins_ok hs (List.mem_of_getElem? hw)
      walk_at "go"
      refine use_begins ht hwk.1 (by omega) ?_
      walk_at "go"
      exact ⟨rfl, Wk.of (by walk_at "wk") (by walk_at "wk")⟩
    · walk_at "go"
      refine cb_all rfl ?_
      rw [show ((insW ss).map (begB (topW ss))).all id = (insW ss).all (begB (topW ss)) by rw [List.all_map]; rfl]
      refine ⟨_, _, rfl, rfl, by nofun, fun h => ⟨fun _ => ?_, fun z => by cases z⟩, fun h => ?_⟩
      · have h1 : (insW ss).all (begB (topW ss)) = false := by simpa using h
        rw [hno (by rw [h1]; rfl)] at k
        walk_at "go"
        exact k _
      · have h1 : (insW ss).all (begB (topW ss)) = true := by simpa using h
        walk_at "go"
        refine ev_lcP (it_seq ?_)
        walk_at "go"
        refine ⟨_, rfl, ((outW ss).map (begB (topW ss))).map .bool, by simp, by simp; omega, ?_, ?_⟩
        · rintro i e f m' he hf rfl
          rw [List.getElem?_map] at he
          obtain ⟨w, hw, rfl⟩ := Option.map_eq_some_iff.mp he
          rw [List.getElem?_map, List.getElem?_map, hw] at hf
          cases hf
          have hwk := out_ok hs (List.mem_of_getElem? hw)
          walk_at "go"
          refine use_begins ht hwk.1 (by omega) ?_
          walk_at "go"
          exact ⟨rfl, Wk.of (by walk_at "wk") (by walk_at "wk")⟩
        · walk_at "go"
          refine cb_any rfl ?_
          rw [show ((outW ss).map (begB (topW ss))).any id = (outW ss).any (begB (topW ss)) by rw [List.any_map]; rfl]
          refine ⟨_, _, rfl, rfl, by nofun, fun h => ?_, fun h => ?_⟩
          · rw [hno (by rw [h1, h]; rfl)] at k
            walk_at "go"
            exact k _
          · walk_at "go"
            exact To.of _ ⟨by rw [h1, h]; rfl, rfl⟩ (by walk_at "wk") (by walk_at "wk") (by simp)
  rintro _ ⟨hc, rfl⟩ _
  refine ex_cut (fun s => begB a (topW ss) = true ∧ s = ⟨[.dat (.tuple (dS a)), .un, .un, .dat (.list ((outW ss).map wD)), .dat (.tuple (dS (topW ss))), .un, .un, .un, .un], []⟩) ?_ ?_
  · walk_at "go"
    refine use_begins ha ht.1 (Nat.le_trans ht.2 (by decide)) ?_
    walk_at "go"
    refine ⟨fun h => ?_, fun h => ?_⟩
    · have h : begB a (topW ss) = false := by simpa using h
      have e : nearD a ss = .tuple (dS (topW ss)) := by
        unfold nearD nearW
        rw [if_pos hc, if_neg (by rw [h]; exact Bool.false_ne_true)]
      rw [e] at k
      walk_at "go"
      exact k _
    · have h : begB a (topW ss) = true := by simpa using h
      walk_at "go"
      exact To.of _ ⟨h, rfl⟩ (by walk_at "wk") (by walk_at "wk") (by simp)
  rintro _ ⟨hb, rfl⟩ _
  refine ex_cut (fun s => s = ⟨[.dat (.tuple (dS a)), .un, .un, .un, .un, .own 0, .un, .un, .un], [some (.list ((barW a ss).map wD))]⟩) ?_ ?_
  · walk_at "go"
    refine ev_lcG (it_seq ?_)
    walk_at "go"
    refine ⟨_, rfl, begG a, by rw [List.length_map]; omega, ?_, ?_⟩
    · rintro i e m' he rfl
      rw [List.getElem?_map] at he
      obtain ⟨w, hw, rfl⟩ := Option.map_eq_some_iff.mp he
      have hwk := out_ok hs (List.mem_of_getElem? hw)
      walk_at "go"
      refine use_begins ha hwk.1 (by omega) ?_
      walk_at "go"
      refine ⟨fun h => ⟨wD w, by rw [begG_one, if_pos h], ?_⟩, fun h => ⟨by rw [begG_one, if_neg (by rw [h]; exact Bool.false_ne_true)], Wk.of (by walk_at "wk") (by walk_at "wk")⟩⟩
      walk_at "go"
      exact ⟨rfl, Wk.of (by walk_at "wk") (by walk_at "wk")⟩
    · walk_at "go"
      rw [begG_all]
      exact To.of _ rfl (by walk_at "wk") (by walk_at "wk") (by simp)
  rintro _ rfl _
  have hbar : ∀ w ∈ barW a ss, NamesOk w ∧ w.length ≤ 101 := fun w hw => out_ok hs (List.mem_filter.mp hw).1
  have e0 : barW a ss = [] → nearD a ss = .tuple (dS a) := fun z => by
    unfold nearD nearW
    rw [if_pos hc, if_pos hb, if_pos z]
  have e1 : barW a ss ≠ [] → nearD a ss = .tuple (dS (bestW false (barW a ss)).dropLast) := fun z => by
    unfold nearD nearW
    rw [if_pos hc, if_pos hb, if_neg z]
  generalize barW a ss = bs at hbar e0 e1
  walk_at "go"
  refine ⟨_, _, rfl, rfl, by nofun, fun h => ?_, fun h => ?_⟩
  · have hne : bs ≠ [] := fun z => by rw [z] at h; cases h
    rw [e1 hne] at k
    walk_at "go"
    refine ev_bestL ?_
    walk_at "go"
    refine ⟨bs.map dS, by rw [words_map], by simpa using hne, ?_⟩
    rw [best_dS]
    walk_at "go"
    rw [cut_but, show (dS (bestW false bs)).dropLast = dS (bestW false bs).dropLast by simp [dS, List.map_dropLast]]
    exact k _
  · have hne : bs = [] := by
      cases bs with
      | nil => rfl
      | cons x r => cases h
    rw [e0 hne] at k
    walk_at "go"
    exact k _
  )]
  intro _ hNoI
  simpa using (fun (_ : NoI.Sg) => hNoI) [5]
end LW


namespace LW
open PySem PySem.Spec PyProof.Rows L2 SH
variable [WW]
set_option maxHeartbeats 0 in
theorem wp__law_sides {K : PySem.W.Frag} : ∀ Zc svs m Ψ, C__law_sides svs m Ψ → ExS K Zc m.length (t__law_sides K) ⟨svs ++ List.replicate (12 - svs.length) .un, m⟩ (retE Ψ) := by
  refine NoI.keep (fun _ wNoI => ?_) ?_
  simp only [↓ NoI.wrOf wNoI (by
  clear wNoI
  rintro Zc _ _ Ψ ⟨b, T, xs, a, rfl, rfl, hw, hx, na, la, k⟩
  unfold t__law_sides
  show ExS _ _ _ _ ⟨[.own 0, .dat (namesD xs), .dat (.tuple (dS a)), .un, .un, .un, .un, .un, .un, .un, .un, .un], [some b.d]⟩ _
  have sub : ∀ w : List Str, (∀ x ∈ w, x ∈ xs) → NamesOk w := fun w h x hm => hx.ok x (h x hm)
  have hxl := hx.ln
  refine ex_cut (fun s => ∃ (b' : Bag) (o : List Str), NamesOk o ∧ o.length ≤ 25 ∧ WB (T + 98) b' ∧ s = ⟨[.own 0, .dat (namesD xs), .dat (.tuple (dS a)), .dat (.tuple (dS o)), .own 1, .un, .un, .un, .un, .un, .un, .un], [some b'.d, some (.list (([] : List Side).map sideD))]⟩) ?_ ?_
  · refine ex_par (ar_cons ?_)
    walk_at "go"
    refine use_take (T := T + 199) rfl (hw.less (by omega)) (by rw [dS_len]; omega) (by rw [dS_len]; omega) fun v b2 v0 v1 hw2 => ?_
    obtain ⟨v, rfl⟩ := Int.eq_ofNat_of_zero_le v0
    walk_at "go"
    refine use_wordN (most := 5) (T := T + 98) rfl (hw2.less (by omega)) hx (by decide) fun w b3 h1 h2 hw3 => ?_
    have hcut : SH.cutD (dS a) none (some (v : Int)) = dS (a.take v) := cut_tS a v
    walk_at "go"
    rotate_left
    · rw [hcut, dS_len, dS_len, List.length_take, sizeLine_eq]; omega
    rw [hcut, show dS (a.take v) ++ dS w = dS (a.take v ++ w) by simp [dS]]
    have nm := nm_app (fun x hx => na x (List.mem_of_mem_take hx) : NamesOk (a.take v)) (sub w h1)
    have ln : (a.take v ++ w).length ≤ 25 := by rw [List.length_append, List.length_take]; omega
    refine use_lred17 nm (by omega) ?_
    walk_at "go"
    exact To.of _ ⟨b3, redS (a.take v ++ w), redS_names nm, Nat.le_trans (redS_len _) ln, hw3, rfl⟩ (by walk_at "wk") (by walk_at "wk") (by simp)
  rintro _ ⟨b1, o, no, lo, hw1, rfl⟩ _
  clear hw
  refine ex_cut (fun s => ∃ (b' : Bag) (ss : List Side), (∀ s ∈ ss, SdOk s ∧ s.1.1.length ≤ 30) ∧ ss.length ≤ 6 ∧ WB T b' ∧ s = ⟨[.un, .un, .un, .un, .own 1, .un, .un, .un, .un, .un, .un, .un], [some b'.d, some (.list (ss.map sideD))]⟩) ?_ ?_
  · refine ex_for (it_range1 ?_)
    walk_at "go"
    refine use_some (T := T + 90) rfl (hw1.less (by omega)) rfl (by nofun) (by simp) fun d b2 hd hw2 => ?_
    obtain ⟨v, hv, rfl⟩ : ∃ v : Nat, v ≤ 6 ∧ d = .int (v : Int) := by
      simp at hd
      rcases hd with rfl | rfl | rfl | rfl | rfl
      · exact ⟨2, by decide, rfl⟩
      · exact ⟨0, by decide, rfl⟩
      · exact ⟨1, by decide, rfl⟩
      · exact ⟨3, by decide, rfl⟩
      · exact ⟨6, by decide, rfl⟩
    walk_at "go"
    refine ⟨_, rfl, by omega, by omega, fun i s => ∃ (b' : Bag) (ss : List Side), i ≤ 6 ∧ (∀ s ∈ ss, SdOk s ∧ s.1.1.length ≤ 30) ∧ ss.length ≤ i ∧ WB (T + 90 - 10 * i) b' ∧ s = ⟨[.own 0, .dat (namesD xs), .dat (.tuple (dS a)), .dat (.tuple (dS o)), .own 1, .un, .un, .un, .un, .un, .un, .un], [some b'.d, some (.list (ss.map sideD))]⟩,
      To.of _ ⟨b2, [], by omega, by nofun, by simp, hw2, rfl⟩ (by walk_at "wk") (by walk_at "wk") (by simp), ?_, ?_⟩
    · rintro i d _ hd ⟨b3, ss, hi, hss, hsl, hw3, rfl⟩ _
      obtain ⟨hi', rfl⟩ := rangeD_at hd
      have hi' : i < v := by omega
      clear hd hw1 hw2
      refine g_name ?_
      walk_at "nrm"
      refine ex_cut (fun s => ∃ (b' : Bag) (u : List Str), NamesOk u ∧ u.length ≤ 25 ∧ WB (T + 90 - 10 * i - 1) b' ∧ s = ⟨[.own 0, .dat (namesD xs), .dat (.tuple (dS a)), .dat (.tuple (dS o)), .own 1, .un, .dat (.tuple (dS u)), .un, .un, .un, .un, .un], [some b'.d, some (.list (ss.map sideD))]⟩) ?_ ?_
      · walk_at "go"
        refine use_some (T := T + 90 - 10 * i - 1) rfl (hw3.less (by omega)) rfl (by nofun) (by simp) fun d b4 hd hw4 => ?_
        obtain ⟨u, nu, lu, rfl⟩ : ∃ u, NamesOk u ∧ u.length ≤ 25 ∧ d = .tuple (dS u) := by
          simp only [List.mem_cons, List.not_mem_nil, or_false] at hd
          rcases hd with rfl | rfl | rfl
          · exact ⟨o, no, lo, rfl⟩
          · exact ⟨a, na, by omega, rfl⟩
          · exact ⟨o, no, lo, rfl⟩
        walk_at "go"
        exact To.of _ ⟨b4, u, nu, lu, hw4, rfl⟩ (by walk_at "wk") (by walk_at "wk") (by simp)
      rintro _ ⟨b4, u0, nu0, lu0, hw4, rfl⟩ _
      clear hw3
      refine ex_cut (fun s => ∃ (b' : Bag) (u : List Str), NamesOk u ∧ u.length ≤ 25 ∧ WB (T + 90 - 10 * i - 2) b' ∧ s = ⟨[.own 0, .dat (namesD xs), .dat (.tuple (dS a)), .dat (.tuple (dS o)), .own 1, .un, .dat (.tuple (dS u)), .un, .un, .un, .un, .un], [some b'.d, some (.list (ss.map sideD))]⟩) ?_ ?_
      · walk_at "go"
        refine use_take (T := T + 90 - 10 * i - 2) rfl (hw4.less (by omega)) (by rw [dS_len]; omega) (by rw [dS_len]; omega) fun v b5 v0 v1 hw5 => ?_
        obtain ⟨v, rfl⟩ := Int.eq_ofNat_of_zero_le v0
        walk_at "go"
        rw [cut_tS]
        exact To.of _ ⟨b5, u0.take v, fun x hx => nu0 x (List.mem_of_mem_take hx), by rw [List.length_take]; omega, hw5, rfl⟩ (by walk_at "wk") (by walk_at "wk") (by simp)
      rintro _ ⟨b5, y, ny, ly, hw5, rfl⟩ _
      clear hw4
      refine ex_cut (fun s => s = ⟨[.own 0, .dat (namesD xs), .dat (.tuple (dS a)), .dat (.tuple (dS o)), .own 1, .un, .dat (.tuple (dS y)), .own 2, .un, .un, .un, .un], [some b5.d, some (.list (ss.map sideD)), some (.list (dS (xs.filter fun x => !decide (y.drop (y.length - 1) = [x]))))]⟩) ?_ ?_
      · walk_at "go"
        refine ev_lcG (it_seq ?_)
        walk_at "go"
        refine ⟨_, rfl, nameG y, by rw [dS_len]; omega, ?_, ?_⟩
        · rintro q d m' hd rfl
          rw [dS, List.getElem?_map] at hd
          obtain ⟨x, hx2, rfl⟩ := Option.map_eq_some_iff.mp hd
          walk_at "go"
          rw [cut_lastW]
          refine os_neW (b := [x]) rfl rfl (fun z hz => ny z (List.mem_of_mem_drop hz)) (fun z hz => by rw [List.mem_singleton.mp hz]; exact hx.ok x (List.mem_of_getElem? hx2)) ?_
          walk_at "go"
          refine ⟨fun h => ?_, fun h => ?_⟩
          · have h : ¬ y.drop (y.length - 1) = [x] := by simpa using h
            refine ⟨.str x, if_neg h, ?_⟩
            walk_at "go"
            exact ⟨rfl, Wk.of (by walk_at "wk") (by walk_at "wk")⟩
          · have h : y.drop (y.length - 1) = [x] := by simpa using h
            exact ⟨if_pos h, Wk.of (by walk_at "wk") (by walk_at "wk")⟩
        · rw [nameG_dS]
          walk_at "go"
          exact To.of _ rfl (by walk_at "wk") (by walk_at "wk") (by simp)
      rintro _ rfl _
      have fs : ∀ x ∈ xs.filter (fun x => !decide (y.drop (y.length - 1) = [x])), x ∈ xs := fun x hx => (List.mem_filter.mp hx).1
      have fl : (xs.filter fun x => !decide (y.drop (y.length - 1) = [x])).length ≤ 1000 := Nat.le_trans (List.length_filter_le _ _) hxl
      generalize (xs.filter fun x => !decide (y.drop (y.length - 1) = [x])) = zs at fs fl
      walk_at "go"
      refine os_ne (d := .list (dS zs)) (e := .list []) rfl rfl (shaped_strs (sub zs fs)) (by decide +kernel) ?_
      rw [eqv_lnil]
      walk_at "go"
      refine ⟨fun h => ?_, fun h => ?_⟩
      · have hne : zs ≠ [] := by simpa using h
        refine ex_cut (fun s => ∃ (b' : Bag) (x : Str), NameOk x ∧ WB (T + 90 - 10 * i - 3) b' ∧ s = ⟨[.own 0, .dat (namesD xs), .dat (.tuple (dS a)), .dat (.tuple (dS o)), .own 1, .un, .dat (.tuple (dS y)), .un, .dat (edgeD (y, x)), .un, .un, .un], [some b'.d, some (.list (ss.map sideD))]⟩) ?_ ?_
        · walk_at "go"
          refine use_some (T := T + 90 - 10 * i - 3) rfl (hw5.less (by omega)) (ds := dS zs) rfl (fun z => hne (List.map_eq_nil_iff.mp z)) (by rw [dS_len]; omega) fun d b6 hd hw6 => ?_
          obtain ⟨x, hx2, rfl⟩ := List.mem_map.mp hd
          walk_at "go"
          exact To.of _ ⟨b6, x, hx.ok x (fs x hx2), hw6, rfl⟩ (by walk_at "wk") (by walk_at "wk") (by simp)
        rintro _ ⟨b6, x, hxo, hw6, rfl⟩ _
        have eok : EdgeOk (y, x) := ⟨ny, hxo, by show y.length ≤ 1000; omega⟩
        obtain ⟨un, ul⟩ := up_ok eok
        have ul2 : (upE (y, x)).length = y.length + 1 := up_len (y, x)
        have eu : dS y ++ [PyData.str x] = dS (upE (y, x)) := dS_snoc y x
        refine ex_cut (fun s => s = ⟨[.own 0, .dat (namesD xs), .dat (.tuple (dS a)), .dat (.tuple (dS o)), .own 1, .un, .dat (.tuple (dS y)), .un, .dat (edgeD (y, x)), .dat (.tuple (dS (upE (y, x)))), .un, .un], [some b6.d, some (.list (ss.map sideD))]⟩) ?_ ?_
        · walk_at "go"
          · rw [eu]
            exact To.of _ rfl (by walk_at "wk") (by walk_at "wk") (by simp)
          · rw [dS_len, sizeLine_eq]; simp; omega
        rintro _ rfl _
        refine ex_cut (fun s => ∃ t : List Str, (t = upE (y, x) ∨ t = y) ∧ s = ⟨[.own 0, .dat (namesD xs), .dat (.tuple (dS a)), .dat (.tuple (dS o)), .own 1, .un, .dat (.tuple (dS y)), .un, .dat (edgeD (y, x)), .dat (.tuple (dS (upE (y, x)))), .dat (.tuple (dS t)), .un], [some b6.d, some (.list (ss.map sideD))]⟩) ?_ ?_
        · walk_at "go"
          rw [dS_len, cut_tS]
          refine os_eqW rfl rfl (fun x hx => no x (List.mem_of_mem_take hx)) un ?_
          walk_at "go"
          refine ⟨fun _ => ?_, fun _ => ?_⟩
          · walk_at "go"
            exact To.of _ ⟨_, .inl rfl, rfl⟩ (by walk_at "wk") (by walk_at "wk") (by simp)
          · walk_at "go"
            exact To.of _ ⟨_, .inr rfl, rfl⟩ (by walk_at "wk") (by walk_at "wk") (by simp)
        rintro _ ⟨t0, ht0, rfl⟩ _
        refine ex_cut (fun s => ∃ (b' : Bag) (t : List Str), (t = upE (y, x) ∨ t = y) ∧ WB (T + 90 - 10 * i - 5) b' ∧ s = ⟨[.own 0, .dat (namesD xs), .dat (.tuple (dS a)), .dat (.tuple (dS o)), .own 1, .un, .un, .un, .dat (edgeD (y, x)), .un, .dat (.tuple (dS t)), .un], [some b'.d, some (.list (ss.map sideD))]⟩) ?_ ?_
        · walk_at "go"
          refine use_take (T := T + 90 - 10 * i - 4) rfl (hw6.less (by omega)) (by decide) (by decide) fun v b7 _ _ hw7 => ?_
          walk_at "go"
          refine ⟨fun _ => ?_, fun _ => ?_⟩
          · walk_at "go"
            refine use_some (T := T + 90 - 10 * i - 5) rfl (hw7.less (by omega)) rfl (by nofun) (by simp) fun d b8 hd hw8 => ?_
            obtain ⟨t, ht, rfl⟩ : ∃ t, (t = upE (y, x) ∨ t = y) ∧ d = .tuple (dS t) := by
              simp only [List.mem_cons, List.not_mem_nil, or_false] at hd
              rcases hd with rfl | rfl
              · exact ⟨y, .inr rfl, rfl⟩
              · exact ⟨_, .inl rfl, rfl⟩
            walk_at "go"
            exact To.of _ ⟨b8, t, ht, hw8, rfl⟩ (by walk_at "wk") (by walk_at "wk") (by simp)
          · walk_at "go"
            exact To.of _ ⟨b7, t0, ht0, hw7.less (by omega), rfl⟩ (by walk_at "wk") (by walk_at "wk") (by simp)
        rintro _ ⟨b7, t, ht, hw7, rfl⟩ _
        have hsd : SdOk ((y, x), t) := ⟨ny, hxo, by show y.length ≤ 100; omega, ht⟩
        walk_at "go"
        · rw [show ss.map sideD ++ [PyData.tuple [edgeD (y, x), PyData.tuple (dS t)]] = (ss ++ [((y, x), t)]).map sideD by rw [List.map_append]; rfl]
          refine To.of _ ⟨b7, ss ++ [((y, x), t)], by omega, fun s hs => ?_, by rw [List.length_append]; simp; omega, hw7.less (by omega), rfl⟩ (by walk_at "wk") (by walk_at "wk") (by simp)
          rcases List.mem_append.mp hs with hs | hs
          · exact hss s hs
          · rw [List.mem_singleton.mp hs]; exact ⟨hsd, by show y.length ≤ 30; omega⟩
        · rw [List.length_map, sizeLine_eq]; omega
      · walk_at "go"
        exact To.of _ ⟨b5, ss, by omega, hss, by omega, hw5.less (by omega), rfl⟩ (by walk_at "wk") (by walk_at "wk") (by simp)
    · rintro _ ⟨b3, ss, hi, hss, hsl, hw3, rfl⟩ _
      rw [rangeD_len, Int.toNat_natCast] at hsl hw3 hi
      exact To.of _ ⟨b3, ss, hss, by omega, hw3.less (by omega), rfl⟩ (by walk_at "wk") (by walk_at "wk") (by simp)
  rintro _ ⟨b2, ss, hss, hsl, hw2, rfl⟩ _
  refine ex_fz (i := 1) rfl ?_
  walk_at "nrm"
  walk_at "go"
  exact k _ ss b2 hss hsl hw2 rfl
  )]
  intro _ hNoI
  simpa using (fun (_ : NoI.Sg) => hNoI) [5]
end LW

namespace LW
open PySem PySem.Spec PyProof.Rows L2 SH
variable [WW]
def t_law_k11 (K : PySem.W.Frag) : TS :=
  (tSeq (tAsg (tCall (spP K C__law_bag) [] E0 (tCons (tVar 0) tNil)) (gName 1))
  (tSeq (tFor (iRng1 (tCons (tC (.int 5)) tNil)) (gName 2)
    (tSeq (tAsg (tTupF (tCons (tCB (rTupU K) (tCons (tCall (spP K C__law_names) [] E0 (tCons (tVar 1) (tCons (tCall (spP K C__law_some) [] E0 (tCons (tVar 1) (tCons (tLst (tCons (tC (.int 2)) (tCons (tC (.int 3)) (tCons (tC (.int 1)) (tCons (tC (.int 5)) tNil))))) tNil))) tNil))) tNil)) (tCons (tTupF tNil) (tCons (tTupF tNil) tNil)))) (gName 3))
  (tSeq (tAsg (tCall (spP K C__law_reduced) [] E0 (tCons (tCall (spP K C__law_any_wordN) [] E0 (tCons (tVar 1) (tCons (tVar 3) (tCons (tC (.int 4)) tNil)))) tNil)) (gName 4))
  (tSeq (tAsg (tLc (iRng1 (tCons (tC (.int 3)) tNil)) (gName 21) tYes (tCall (spP K C__law_reduced) [] E0 (tCons (tOp (rAddU K) (tSl (rSlU K) (tVar 4) tNoPart (tPart (tCall (spP K C__law_take) [] E0 (tCons (tVar 1) (tCons (tC (.int 5)) tNil))))) (tCall (spP K C__law_any_wordN) [] E0 (tCons (tVar 1) (tCons (tVar 3) (tCons (tC (.int 5)) tNil))))) tNil)) [21]) (gName 5))
  (tSeq (tAsg (tVar 5) (gLst K 3 (gCons (gName 6) (gCons (gName 7) (gCons (gName 8) gNil)))))
  (tSeq (tAsg (tCall (spP K C_median_word) [] E0 (tCons (tVar 6) (tCons (tVar 7) (tCons (tVar 8) tNil)))) (gName 9))
  (tSeq (tIfS (tOr (tNot (tTru K (tCB (rIsiX K) (tCons (tVar 9) (tCons (tC (.ty "tuple")) tNil))))) (tTest (tOp (rNeU K) (tCall (spP K C__law_reduced) [] E0 (tCons (tVar 9) tNil)) (tVar 9))))
    (tRet (tC (.bl false)))
    tNext)
  (tSeq (tFor (iSeq K (tTupF (tCons (tTupF (tCons (tVar 6) (tCons (tVar 7) tNil))) (tCons (tTupF (tCons (tVar 7) (tCons (tVar 8) tNil))) (tCons (tTupF (tCons (tVar 6) (tCons (tVar 8) tNil))) tNil))))) (gTup K 2 (gCons (gName 10) (gCons (gName 11) gNil)))
    (tIfS (tTest (tOp (rNeU K) (tOp (rAddU K) (tCall (spP K C__law_far) [] E0 (tCons (tVar 10) (tCons (tVar 9) tNil))) (tCall (spP K C__law_far) [] E0 (tCons (tVar 9) (tCons (tVar 11) tNil)))) (tCall (spP K C__law_far) [] E0 (tCons (tVar 10) (tCons (tVar 11) tNil)))))
    (tRet (tC (.bl false)))
    tNext))
  (tSeq (tAsg (tCall (spP K C__law_mixed) [] E0 (tCons (tVar 1) (tCons (tVar 5) tNil))) (gName 12))
  (tSeq (tIfS (tNot (tTru K (tCall (spP K C__law_alike) [] E0 (tCons (tCall (spP K C_median_word) [] E0 (tCons (tOp (rIxU K) (tVar 12) (tC (.int 0))) (tCons (tOp (rIxU K) (tVar 12) (tC (.int 1))) (tCons (tOp (rIxU K) (tVar 12) (tC (.int 2))) tNil)))) (tCons (tVar 9) tNil)))))
    (tRet (tC (.bl false)))
    tNext)
  (tSeq (tAsg (tCall (spP K C__law_sides) [] E0 (tCons (tVar 1) (tCons (tVar 3) (tCons (tVar 6) tNil)))) (gName 13))
  (tSeq (tAsg (tOp (rAddU K) (tLst (tCons (tVar 6) tNil)) (tLc (iSeq K (tVar 13)) (gTup K 2 (gCons (gName 22) (gCons (gName 23) gNil))) tYes (tVar 23) [22, 23])) (gName 14))
  (tSeq (tAsg (tLc (iSeq K (tVar 14)) (gName 23) (tTest (tOp (rEqU K) (tLc (iSeq K (tVar 13)) (gTup K 2 (gCons (gName 22) (gCons (gName 24) gNil))) (tNot (tTru K (tCall (spP K C__law_is_on_side) [] E0 (tCons (tVar 23) (tCons (tVar 22) (tCons (tVar 24) tNil)))))) (tC (.int 1)) [22, 24]) (tLst tNil))) (tVar 23) [23]) (gName 15))
  (tSeq (tAsg (tSl (rSlU K) (tCB (rSortX K) (tCons (tLc (iSeq K (tVar 15)) (gName 23) tYes (tTupF (tCons (tCall (spP K C__law_far) [] E0 (tCons (tVar 6) (tCons (tVar 23) tNil))) (tCons (tVar 23) tNil))) [23]) tNil)) tNoPart (tPart (tC (.int 1)))) (gName 16))
  (tSeq (tPar 17 18 (tCons (tIf (tTest (tOp (rNeU K) (tVar 16) (tLst tNil))) (tOp (rIxU K) (tOp (rIxU K) (tVar 16) (tC (.int 0))) (tC (.int 1))) (tC .non)) (tCons (tCB (rReprW K) (tCons (tVar 13) tNil)) tNil)))
  (tSeq (tIfS (tNot (tTru K (tCall (spP K C__law_alike) [] E0 (tCons (tLst (tCons (tCall (spP K C_nearest) [] E0 (tCons (tVar 6) (tCons (tVar 13) tNil))) (tCons (tCall (spP K C_nearest) [] E0 (tCons (tVar 6) (tCons (tCB (rTupU K) (tCons (tCall (spP K C__law_mixed) [] E0 (tCons (tVar 1) (tCons (tVar 13) tNil))) tNil)) tNil))) tNil))) (tCons (tLst (tCons (tVar 17) (tCons (tVar 17) tNil))) tNil)))))
    (tRet (tC (.bl false)))
    tNext)
  (tSeq (tIfS (tTest (tOp (rNeU K) (tCB (rReprW K) (tCons (tVar 13) tNil)) (tVar 18)))
    (tRet (tC (.bl false)))
    tNext)
  (tSeq (tAsg (tLst tNil) (gName 19))
  (tSeq (tFor (iSeq K (tVar 13)) (gName 10)
    (tFor (iSeq K (tVar 13)) (gName 11)
    (tSeq (tAsg (tLst (tCons (tOp (rIxU K) (tVar 10) (tC (.int 1))) (tCons (tOp (rIxU K) (tVar 11) (tC (.int 1))) tNil))) (gName 20))
  (tDrop (tBM K "list" rAppend (tVar 19) (tCons (tLc (iSeq K (tVar 20)) (gName 23) (tAnd (tTru K (tCall (spP K C__law_is_on_side) [] E0 (tCons (tVar 23) (tCons (tOp (rIxU K) (tVar 10) (tC (.int 0))) (tCons (tOp (rIxU K) (tVar 10) (tC (.int 1))) tNil))))) (tTru K (tCall (spP K C__law_is_on_side) [] E0 (tCons (tVar 23) (tCons (tOp (rIxU K) (tVar 11) (tC (.int 0))) (tCons (tOp (rIxU K) (tVar 11) (tC (.int 1))) tNil)))))) (tVar 23) [23]) tNil))))))
  (tIfS (tTest (tOp (rNeU K) (tOp (rIsNo) (tVar 17) (tC .non)) (tOp (rInX K false) (tLst tNil) (tVar 19))))
    (tRet (tC (.bl false)))
    tNext))))))))))))))))))))
  (tRet (tC (.bl true)))))
end LW

namespace LW
open PySem PySem.Spec PyProof.Rows L2 SH
variable [WW]
section
variable {K : PySem.W.Frag} {Zc : Addr → Prop} {s : S}
theorem g_lst {K' : PySem.W.Frag} {j : Nat} {u : TGs} {d : D} {ds : List D} {Ψ : S → Prop} (hK : K' = K) (hd : d = .list ds) (hl : ds.length = j) (h : GSs K Zc u ds s Ψ) : GS K Zc (gLst K' j u) (.dat d) s Ψ := by
  refine NoI.keep (fun _ wNoI => ?_) ?_
  simp only [↓ NoI.wrOf wNoI (by
  clear wNoI
  intro ad H σ v Q I r k
  subst hK hd
  obtain ⟨a, ws, rfl, h1, h2⟩ := lst_of (show DV K' _ v (.list ds) from r)
  exact ⟨_, _, rfl, SqL.of (Fz_at h1), by rw [dpAll_len h2]; exact hl, h ad H σ _ Q I h2 k⟩
  )]
  intro _ hNoI
  simpa using (fun (_ : NoI.Sg) => hNoI) [5]
end
theorem wD_inj {a b : List Str} (h : wD a = wD b) : a = b := by
  have e := eqv_dS a b
  have f := eqv_dS b b
  rw [show PyData.tuple (dS a) = PyData.tuple (dS b) from h, f] at e
  simpa using e.symm
/-! the ends that lie on all sides -/
def goodL (ss : List Side) (w : List Str) : Bool := ss.all (onB w)
theorem goodL_iff {ss : List Side} {w : List Str} : goodL ss w = true ↔ goodB w ss := by
  unfold goodL goodB
  rw [List.all_eq_true]
def offG (w : List Str) : D → Option D
  | .tuple [.tuple [.tuple u, .str x], .tuple t] => if (PyData.eqv (.tuple ((dS w).take (u.length + 1))) (.tuple (u ++ [.str x])) == PyData.eqv (.tuple t) (.tuple (u ++ [.str x]))) = true then none else some (.int 1)
  | _ => none
theorem offG_one (w : List Str) (s : Side) : offG w (sideD s) = if onB w s = true then none else some (.int 1) := by
  refine NoI.keep (fun _ wNoI => ?_) ?_
  simp only [↓ NoI.wrOf wNoI (by
  clear wNoI
  show (if (PyData.eqv (.tuple ((dS w).take ((dS s.1.1).length + 1))) (.tuple (dS s.1.1 ++ [.str s.1.2])) == PyData.eqv (.tuple (dS s.2)) (.tuple (dS s.1.1 ++ [.str s.1.2]))) = true then none else some (PyData.int 1)) = _
  rw [dS_snoc, eqv_dS, dS_len, dS_take, eqv_dS]
  have e : (w.take (s.1.1.length + 1) = s.1.1 ++ [s.1.2]) = (w.take (upE s.1).length = upE s.1) := by rw [up_len]; rfl
  unfold onB begB
  rw [show s.1.1 ++ [s.1.2] = upE s.1 from rfl, up_len]
  )]
  intro _ hNoI
  simpa using (fun (_ : NoI.Sg) => hNoI) [5]
theorem offG_all (w : List Str) : ∀ ss : List Side, (ss.map sideD).filterMap (offG w) = dI ((ss.filter fun s => !onB w s).map fun _ => 1)
  | [] => rfl
  | s :: ss => by
    rw [List.map_cons, List.filterMap_cons, offG_one]
    by_cases c : onB w s = true
    · rw [if_pos c, List.filter_cons_of_neg (by rw [c]; decide), offG_all w ss]
    · rw [if_neg c, List.filter_cons_of_pos (by simpa using c), List.map_cons, offG_all w ss]
      rfl
theorem off_empty (w : List Str) (ss : List Side) : (dI ((ss.filter fun s => !onB w s).map fun _ => (1 : Int))).isEmpty = goodL ss w := by
  refine NoI.keep (fun _ wNoI => ?_) ?_
  simp only [↓ NoI.wrOf wNoI (by
  clear wNoI
  unfold goodL
  induction ss with
  | nil => rfl
  | cons s ss ih =>
    by_cases c : onB w s = true
    · rw [List.filter_cons_of_neg (by rw [c]; decide), ih, List.all_cons, c, Bool.true_and]
    · rw [List.filter_cons_of_pos (by simpa using c), List.all_cons]
      have c : onB w s = false := by simpa using c
      rw [c, Bool.false_and]
      rfl
  )]
  intro _ hNoI
  simpa using (fun (_ : NoI.Sg) => hNoI) [5]
noncomputable def goodG (ss : List Side) (d : D) : Option D := by
  classical exact if ∃ w, d = wD w ∧ goodL ss w = true then some d else none
theorem goodG_one (ss : List Side) (w : List Str) : goodG ss (wD w) = if goodL ss w = true then some (wD w) else none := by
  refine NoI.keep (fun _ wNoI => ?_) ?_
  simp only [↓ NoI.wrOf wNoI (by
  clear wNoI
  classical
  unfold goodG
  by_cases c : goodL ss w = true
  · rw [if_pos c, if_pos ⟨w, rfl, c⟩]
  · rw [if_neg c, if_neg]
    rintro ⟨v, e, h⟩
    rw [wD_inj e] at c
    exact c h
  )]
  intro _ hNoI
  simpa using (fun (_ : NoI.Sg) => hNoI) [5]
theorem goodG_all (ss : List Side) : ∀ ws : List (List Str), (ws.map wD).filterMap (goodG ss) = (ws.filter (goodL ss)).map wD
  | [] => rfl
  | w :: ws => by
    rw [List.map_cons, List.filterMap_cons, goodG_one]
    by_cases c : goodL ss w = true
    · rw [if_pos c, List.filter_cons_of_pos c, List.map_cons, goodG_all ss ws]
    · rw [if_neg c, List.filter_cons_of_neg c, goodG_all ss ws]
/-! the nearest of them -/
def rowD (a w : List Str) : D := .tuple [.int (farN a w : Int), wD w]
theorem alike_words : ∀ a b : List Str, PySem.W.alikeAll (dS a) (dS b) = true
  | [], b => by cases b <;> rfl
  | x :: a, [] => rfl
  | x :: a, y :: b => by
    show (PySem.W.alike (.str x) (.str y) && PySem.W.alikeAll (dS a) (dS b)) = true
    rw [alike_words a b]
    rfl
theorem rows_alike (a : List Str) (ws : List (List Str)) : PySem.W.AllAlike (ws.map (rowD a)) := by
  refine NoI.keep (fun _ wNoI => ?_) ?_
  simp only [↓ NoI.wrOf wNoI (by
  clear wNoI
  intro d hd d' hd'
  obtain ⟨w, _, rfl⟩ := List.mem_map.mp hd
  obtain ⟨v, _, rfl⟩ := List.mem_map.mp hd'
  have h := alike_words w v
  unfold rowD wD
  simp [PySem.W.alike, PySem.W.alikeAll, h]
  )]
  intro _ hNoI
  simpa using (fun (_ : NoI.Sg) => hNoI) [5]
theorem rows_sortable (a : List Str) (ws : List (List Str)) : PySem.W.Sortable (ws.map (rowD a)) := .inl fun d hd => by
  obtain ⟨w, _, rfl⟩ := List.mem_map.mp hd
  exact ⟨_, _, rfl⟩
theorem row_lt {a v w : List Str} (h : farN a v < farN a w) : PySem.W.dataLt (rowD a v) (rowD a w) = true := by
  refine NoI.keep (fun _ wNoI => ?_) ?_
  simp only [↓ NoI.wrOf wNoI (by
  clear wNoI
  unfold rowD
  have al : PySem.W.alike (wD v) (wD w) = true := by
    have := alike_words v w
    unfold wD
    simpa [PySem.W.alike] using this
  rw [PySem.W.dataLt_pair rfl al, if_neg (by simp [PyData.eqv]; omega), PySem.W.dataLt_int]
  simp; omega
  )]
  intro _ hNoI
  simpa using (fun (_ : NoI.Sg) => hNoI) [5]
def leastD (a : List Str) (ss : List Side) : List D := match nearW a ss with
  | some v => [rowD a v]
  | none => []
theorem least_eq {a : List Str} {ss : List Side} (ok : ∀ s ∈ ss, SideOk s) : (sortD (((a :: ss.map fun s => s.2).filter (goodL ss)).map (rowD a))).take 1 = leastD a ss := by
  refine NoI.keep (fun _ wNoI => ?_) ?_
  simp only [↓ NoI.wrOf wNoI (by
  clear wNoI
  have T := PySem.W.sortLe_total (PyProof.Rows.listOrd PyProof.Rows.itemOrd) false fun d : D => PySem.W.keyToks d
  unfold leastD
  cases hn : nearW a ss with
  | none =>
    have e : (a :: ss.map fun s => s.2).filter (goodL ss) = [] := by
      rw [List.filter_eq_nil_iff]
      exact fun w _ h => near_none ok hn w (goodL_iff.mp h)
    rw [e]
    show (sortD []).take 1 = []
    unfold sortD
    rw [List.mergeSort_nil]
    rfl
  | some v =>
    obtain ⟨h1, h2, h3⟩ := near_some ok hn
    have hv : rowD a v ∈ ((a :: ss.map fun s => s.2).filter (goodL ss)).map (rowD a) := List.mem_map_of_mem (List.mem_filter.mpr ⟨h1, goodL_iff.mpr h2⟩)
    have pw : (sortD (((a :: ss.map fun s => s.2).filter (goodL ss)).map (rowD a))).Pairwise fun a b => PySem.W.dataLe false id a b = true := List.pairwise_mergeSort (fun a b c => T.trans a b c) (fun a b => by rw [Bool.or_eq_true]; exact T.total a b) _
    have pm : (sortD (((a :: ss.map fun s => s.2).filter (goodL ss)).map (rowD a))).Perm (((a :: ss.map fun s => s.2).filter (goodL ss)).map (rowD a)) := List.mergeSort_perm _ _
    generalize sortD (((a :: ss.map fun s => s.2).filter (goodL ss)).map (rowD a)) = rs at pw pm
    cases rs with
    | nil => exact absurd (pm.mem_iff.mpr hv) List.not_mem_nil
    | cons d rs =>
      obtain ⟨w, hw, rfl⟩ := List.mem_map.mp (pm.mem_iff.mp List.mem_cons_self)
      have gw := goodL_iff.mp (List.mem_filter.mp hw).2
      have e : w = v := by
        rcases Classical.em (w = v) with z | z
        · exact z
        · have lt := row_lt (h3 w gw z)
          rcases List.mem_cons.mp (pm.mem_iff.mpr hv) with y | y
          · have y2 : wD v = wD w := by injection y with y; injection y with _ y; injection y
            exact absurd (wD_inj y2).symm z
          · have := (List.pairwise_cons.mp pw).1 _ y
            simp [PySem.W.dataLe_eq] at this
            rw [lt] at this
            cases this
      rw [e]
      rfl
  )]
  intro _ hNoI
  simpa using (fun (_ : NoI.Sg) => hNoI) [5]
theorem near_perm {a : List Str} {ss ts : List Side} (ok : ∀ s ∈ ss, SideOk s) (h : ts.Perm ss) : nearW a ts = nearW a ss := by
  refine NoI.keep (fun _ wNoI => ?_) ?_
  simp only [↓ NoI.wrOf wNoI (by
  clear wNoI
  have ok2 : ∀ s ∈ ts, SideOk s := fun s hs => ok s (h.mem_iff.mp hs)
  have g : ∀ w, goodB w ts ↔ goodB w ss := fun w => ⟨fun z s hs => z s (h.mem_iff.mpr hs), fun z s hs => z s (h.mem_iff.mp hs)⟩
  cases h1 : nearW a ss with
  | none =>
    cases h2 : nearW a ts with
    | none => rfl
    | some v => exact absurd ((g v).mp (near_some ok2 h2).2.1) (near_none ok h1 v)
  | some v =>
    obtain ⟨_, v2, v3⟩ := near_some ok h1
    cases h2 : nearW a ts with
    | none => exact absurd ((g v).mpr v2) (near_none ok2 h2 v)
    | some u =>
      obtain ⟨_, u2, u3⟩ := near_some ok2 h2
      rcases Classical.em (u = v) with z | z
      · rw [z]
      · have := v3 u ((g u).mp u2) z
        have := u3 v ((g v).mpr v2) fun y => z y.symm
        omega
  )]
  intro _ hNoI
  simpa using (fun (_ : NoI.Sg) => hNoI) [5]
/-! couples of sides -/
def bothD (s t : Side) : D := .list ((bothW s t).map wD)
def couples (ss : List Side) : List D := ss.flatMap fun s => ss.map fun t => bothD s t
theorem both_empty (s t : Side) : PyData.eqv (bothD s t) (.list []) = decide (bothW s t = []) := by
  unfold bothD
  rw [eqv_nilL]
  cases bothW s t <;> rfl
theorem couples_any {a : List Str} {ss : List Side} (ok : ∀ s ∈ ss, SideOk s) : ((couples ss).any fun z => PyData.eqv z (.list [])) = (nearW a ss).isNone := by
  refine NoI.keep (fun _ wNoI => ?_) ?_
  simp only [↓ NoI.wrOf wNoI (by
  clear wNoI
  rw [Bool.eq_iff_iff, List.any_eq_true, Option.isNone_iff_eq_none, helly ok]
  unfold couples
  constructor
  · rintro ⟨d, hd, e⟩
    obtain ⟨s, hs, hd⟩ := List.mem_flatMap.mp hd
    obtain ⟨t, ht, rfl⟩ := List.mem_map.mp hd
    rw [both_empty] at e
    exact ⟨s, hs, t, ht, of_decide_eq_true e⟩
  · rintro ⟨s, hs, t, ht, e⟩
    exact ⟨bothD s t, List.mem_flatMap.mpr ⟨s, hs, List.mem_map.mpr ⟨t, ht, rfl⟩⟩, by rw [both_empty]; exact decide_eq_true e⟩
  )]
  intro _ hNoI
  simpa using (fun (_ : NoI.Sg) => hNoI) [5]
end LW


namespace LW
open PySem PySem.Spec PyProof.Rows L2 SH
variable [WW]
section
variable {sl : List SV} {mem : Mem} {Φ : SV → S → Prop} {b : Bag} {T j : Nat}
theorem use_med {a c d : List Str} (ha : WoOk a) (hc : WoOk c) (hd : WoOk d) (k : Φ (.dat (.tuple (dS (medW a c d)))) ⟨sl, mem⟩) : C_median_word ([.tuple (dS a), .tuple (dS c), .tuple (dS d)].map SV.dat) [] (backP ⟨sl, mem⟩ Φ) := ⟨a, c, d, rfl, rfl, ha, hc, hd, fun m' => k⟩
theorem use_nearW {a : List Str} {ss : List Side} {d : D} (hd : itemsD d = some (ss.map sideD)) (ha : WoOk a) (hs : ∀ s ∈ ss, SdOk s) (hl : ss.length ≤ 1000) (k : Φ (.dat (nearD a ss)) ⟨sl, mem⟩) : C_nearest ([.tuple (dS a), d].map SV.dat) [] (backP ⟨sl, mem⟩ Φ) := ⟨a, ss, d, rfl, rfl, hd, ha, hs, hl, fun m' => k⟩
theorem use_far {a c : List Str} (la : a.length ≤ 100000) (lc : c.length ≤ 100000) (k : Φ (.dat (.int (farN a c : Int))) ⟨sl, mem⟩) : C__law_far ([.tuple (dS a), .tuple (dS c)].map SV.dat) [] (backP ⟨sl, mem⟩ Φ) := ⟨a, c, rfl, rfl, la, lc, fun m' => k⟩
theorem use_onSide {w : List Str} {s : Side} (hw : WoOk w) (hs : SdOk s) (k : Φ (.dat (.bool (onB w s))) ⟨sl, mem⟩) : C__law_is_on_side ([.tuple (dS w), edgeD s.1, .tuple (dS s.2)].map SV.dat) [] (backP ⟨sl, mem⟩ Φ) := ⟨w, s, rfl, rfl, hw, hs, fun m' => k⟩
theorem use_sides {xs a : List Str} (hm : mem[j]? = some (some b.d)) (hw : WB (T + 200) b) (hx : NmOk xs) (na : NamesOk a) (la : a.length ≤ 20)
    (k : ∀ (ss : List Side) (b' : Bag), (∀ s ∈ ss, SdOk s ∧ s.1.1.length ≤ 30) → ss.length ≤ 6 → WB T b' → Φ (.dat (.list (ss.map sideD))) ⟨sl, mem.set j (some b'.d)⟩) :
    ∃ bs, mem[j]? = some (some bs) ∧ C__law_sides (.own 0 :: [namesD xs, .tuple (dS a)].map SV.dat) [some bs] (backB ⟨sl, mem⟩ j Φ) :=
  ⟨_, hm, b, T, xs, a, rfl, rfl, hw, hx, na, la, fun m' ss b' h1 h2 hw' hm' => ⟨_, _, rfl, hm', k ss b' h1 h2 hw'⟩⟩
end
theorem perm_three {es : List D} {a c d : List Str} (h : es.Perm [wD a, wD c, wD d]) : ∃ u v w, [u, v, w].Perm [a, c, d] ∧ es = [wD u, wD v, wD w] := by
  obtain ⟨M, pM, rfl⟩ := perm_lift h [a, c, d] rfl
  have hl := pM.length_eq
  match M, hl with
  | [u, v, w], _ => exact ⟨u, v, w, pM, rfl⟩
theorem med_wd {n : Nat} {a c d : List Str} (ha : Wd n a) (hc : Wd n c) : Wd n (medW a c d) := by
  refine NoI.keep (fun _ wNoI => ?_) ?_
  simp only [↓ NoI.wrOf wNoI (by
  clear wNoI
  have cut : ∀ (w : List Str) (k : Nat), Wd n w → Wd n (w.take k) := fun w k h => ⟨fun x hx => h.nm x (List.mem_of_mem_take hx), by rw [List.length_take]; have := h.ln; omega⟩
  rcases med_cases a c d with ⟨e, _⟩ | ⟨e, _⟩ | ⟨e, _⟩ <;> rw [e]
  · exact cut _ _ ha
  · exact cut _ _ ha
  · exact cut _ _ hc
  )]
  intro _ hNoI
  simpa using (fun (_ : NoI.Sg) => hNoI) [5]
theorem far_at {a c d : List Str} (ha : Wd 9 a) (hc : Wd 9 c) (hd : Wd 9 d) {i : Nat} {x : D} (h : ([.tuple [.tuple (dS a), .tuple (dS c)], .tuple [.tuple (dS c), .tuple (dS d)], .tuple [.tuple (dS a), .tuple (dS d)]] : List D)[i]? = some x) :
    ∃ u v, Wd 9 u ∧ Wd 9 v ∧ x = .tuple [.tuple (dS u), .tuple (dS v)] ∧ (farN u (medW a c d) : Int) + (farN (medW a c d) v : Int) = (farN u v : Int) := by
  refine NoI.keep (fun _ wNoI => ?_) ?_
  simp only [↓ NoI.wrOf wNoI (by
  clear wNoI
  obtain ⟨m1, m2, m3⟩ := med_far a c d
  match i, h with
  | 0, h => cases h; exact ⟨a, c, ha, hc, rfl, by omega⟩
  | 1, h => cases h; exact ⟨c, d, hc, hd, rfl, by omega⟩
  | 2, h => cases h; exact ⟨a, d, ha, hd, rfl, by omega⟩
  | n + 3, h => cases h
  )]
  intro _ hNoI
  simpa using (fun (_ : NoI.Sg) => hNoI) [5]
theorem row_dp (a w : List Str) : (rowD a w).depth ≤ 50 := by
  refine NoI.keep (fun _ wNoI => ?_) ?_
  simp only [↓ NoI.wrOf wNoI (by
  clear wNoI
  have h : ∀ w : List Str, PyData.depthAll (dS w) = 0 := fun w => by
    induction w with
    | nil => rfl
    | cons x w ih =>
      show max (PyData.depth (.str x)) (PyData.depthAll (dS w)) = 0
      rw [ih]; rfl
  unfold rowD wD
  simp [PyData.depth, PyData.depthAll, h]
  )]
  intro _ hNoI
  simpa using (fun (_ : NoI.Sg) => hNoI) [5]
theorem rows_nd (a : List Str) : ∀ G : List (List Str), PyData.hasDictAll (G.map (rowD a)) = false
  | [] => rfl
  | w :: G => by
    have h : ∀ w : List Str, PyData.hasDictAll (dS w) = false := fun w => by
      induction w with
      | nil => rfl
      | cons x w ih =>
        show (PyData.hasDict (.str x) || PyData.hasDictAll (dS w)) = false
        rw [ih]; rfl
    show (PyData.hasDict (rowD a w) || PyData.hasDictAll (G.map (rowD a))) = false
    rw [rows_nd a G, Bool.or_false]
    unfold rowD wD
    simp [PyData.hasDict, PyData.hasDictAll, h]
theorem shaped_row (a : List Str) {v : List Str} (h : NamesOk v) : SeqAt.shaped (.list [rowD a v]) = true := by
  refine NoI.keep (fun _ wNoI => ?_) ?_
  simp only [↓ NoI.wrOf wNoI (by
  clear wNoI
  have h1 : PyData.canLayAll0 (dS v) = true := layW h
  have h2 := row_dp a v
  unfold rowD wD at h2 ⊢
  unfold SeqAt.shaped
  simp [PyData.canLay0, PyData.canLayAll0, h1]
  simp [PyData.depth, PyData.depthAll] at h2 ⊢
  omega
  )]
  intro _ hNoI
  simpa using (fun (_ : NoI.Sg) => hNoI) [5]
theorem near_two {a : List Str} {ss : List Side} (hn : NamesOk a ∧ a.length ≤ 100) (hs : ∀ s ∈ ss, SdOk s) :
    (leastD a ss = [] ∧ nearD a ss = .none ∧ nearW a ss = none) ∨ ∃ v, NamesOk v ∧ v.length ≤ 101 ∧ leastD a ss = [rowD a v] ∧ nearD a ss = wD v ∧ nearW a ss = some v := by
  refine NoI.keep (fun _ wNoI => ?_) ?_
  simp only [↓ NoI.wrOf wNoI (by
  clear wNoI
  unfold leastD nearD
  cases e : nearW a ss with
  | none => exact .inl ⟨rfl, rfl, rfl⟩
  | some v =>
    refine .inr ⟨v, ?_, ?_, rfl, rfl, rfl⟩
    all_goals
      rcases List.mem_cons.mp (near_some (fun s h => (hs s h).ok) e).1 with z | z
    · rw [z]; exact hn.1
    · obtain ⟨s, hm, rfl⟩ := List.mem_map.mp z
      exact (hs s hm).endW.1
    · rw [z]; exact Nat.le_trans hn.2 (by decide)
    · obtain ⟨s, hm, rfl⟩ := List.mem_map.mp z
      exact (hs s hm).endW.2
  )]
  intro _ hNoI
  simpa using (fun (_ : NoI.Sg) => hNoI) [5]
theorem flat_len (ss : List Side) : ∀ ts : List Side, (ts.flatMap fun s => ss.map (bothD s)).length = ts.length * ss.length
  | [] => by simp
  | t :: ts => by
    rw [List.flatMap_cons, List.length_append, flat_len ss ts, List.length_map, List.length_cons, Nat.succ_mul]
    omega
theorem lay_all : ∀ {ds : List D}, (∀ d ∈ ds, d.canLay0 = true) → PyData.canLayAll0 ds = true
  | [], _ => rfl
  | d :: ds, h => by
    rw [PyData.canLayAll0, h d List.mem_cons_self, lay_all fun x hx => h x (List.mem_cons_of_mem _ hx)]
    rfl
theorem couples_lay {ss : List Side} (h : ∀ s ∈ ss, SdOk s) : PyData.canLayAll0 (couples ss) = true := by
  refine NoI.keep (fun _ wNoI => ?_) ?_
  simp only [↓ NoI.wrOf wNoI (by
  clear wNoI
  refine lay_all fun d hd => ?_
  unfold couples at hd
  obtain ⟨s, hs, hd⟩ := List.mem_flatMap.mp hd
  obtain ⟨t, ht, rfl⟩ := List.mem_map.mp hd
  unfold bothD
  rw [PyData.canLay0]
  refine lay_all fun d hd => ?_
  obtain ⟨w, hw, rfl⟩ := List.mem_map.mp hd
  have hn : NamesOk w := by
    have := (List.mem_filter.mp hw).1
    simp only [List.mem_cons, List.not_mem_nil, or_false] at this
    rcases this with rfl | rfl
    · exact (h s hs).endW.1
    · exact (h t ht).endW.1
  unfold wD
  rw [PyData.canLay0]
  exact layW hn
  )]
  intro _ hNoI
  simpa using (fun (_ : NoI.Sg) => hNoI) [5]
theorem bothG_eq (s t : Side) : ([wD s.2, wD t.2] : List D).filterMap (goodG [s, t]) = (bothW s t).map wD := by
  refine NoI.keep (fun _ wNoI => ?_) ?_
  simp only [↓ NoI.wrOf wNoI (by
  clear wNoI
  rw [show ([wD s.2, wD t.2] : List D) = [s.2, t.2].map wD from rfl, goodG_all]
  unfold bothW
  congr 1
  refine List.filter_congr fun w _ => ?_
  unfold goodL
  simp
  )]
  intro _ hNoI
  simpa using (fun (_ : NoI.Sg) => hNoI) [5]
theorem any_near {a : List Str} {ss : List Side} (hn : NamesOk a ∧ a.length ≤ 100) (hs : ∀ s ∈ ss, SdOk s) : Any 2000 1 (nearD a ss) := by
  refine NoI.keep (fun _ wNoI => ?_) ?_
  simp only [↓ NoI.wrOf wNoI (by
  clear wNoI
  rcases near_two hn hs with ⟨_, e, _⟩ | ⟨v, vn, vl, _, e, _⟩ <;> rw [e]
  · exact ⟨rfl, by decide, by decide⟩
  · exact (any_names vn).tup.less (by omega) (Nat.le_refl _)
  )]
  intro _ hNoI
  simpa using (fun (_ : NoI.Sg) => hNoI) [5]
theorem any_sides {ss : List Side} (hs : ∀ s ∈ ss, SdOk s ∧ s.1.1.length ≤ 30) (hl : ss.length ≤ 6) : Any 10000 4 (.list (ss.map sideD)) := by
  refine NoI.keep (fun _ wNoI => ?_) ?_
  simp only [↓ NoI.wrOf wNoI (by
  clear wNoI
  have g := AnyA.of (V := 1000) (k := 3) (ds := ss.map sideD) fun d hd => by
    obtain ⟨s, hm, rfl⟩ := List.mem_map.mp hd
    obtain ⟨h1, h2⟩ := hs s hm
    have e1 : Any (13 * s.1.1.length) 1 (.tuple (dS s.1.1)) := (any_names h1.nm).tup
    have e2 : Any 12 0 (.str s.1.2) := any_str (fun c hc => by have := h1.sv.1 c hc; omega) h1.sv.2
    have e3 : Any (13 * s.2.length) 1 (.tuple (dS s.2)) := (any_names h1.endW.1).tup
    have l3 : s.2.length ≤ 31 := by
      rcases h1.ok with z | z <;> rw [z]
      · rw [up_len]; omega
      · omega
    have e4 := (AnyA.cons e1 (AnyA.cons (e2.less (Nat.le_refl _) (Nat.zero_le 1)) AnyA.nil (V := 0))).tup
    have e5 := (AnyA.cons e4 (AnyA.cons (e3.less (Nat.le_refl _) (by omega)) AnyA.nil (V := 0))).tup
    exact e5.less (by omega) (by omega)
  exact (g.less (Nat.le_trans (Nat.mul_le_mul (Nat.le_refl _) (show (ss.map sideD).length ≤ 6 by rw [List.length_map]; exact hl)) (by decide)) (by omega)).lst
  )]
  intro _ hNoI
  simpa using (fun (_ : NoI.Sg) => hNoI) [5]
set_option maxHeartbeats 0 in
theorem wp_law_k11 {K : PySem.W.Frag} : ∀ Zc svs m Ψ, C_law svs m Ψ → ExS K Zc m.length (t_law_k11 K) ⟨svs ++ List.replicate (25 - svs.length) .un, m⟩ (retE Ψ) := by
  refine NoI.keep (fun _ wNoI => ?_) ?_
  simp only [↓ NoI.wrOf wNoI (by
  clear wNoI
  rintro Zc _ _ Ψ ⟨ns, rfl, rfl, hl, k⟩
  unfold t_law_k11
  show ExS _ _ _ _ ⟨[.ro ns, .un, .un, .un, .un, .un, .un, .un, .un, .un, .un, .un, .un, .un, .un, .un, .un, .un, .un, .un, .un, .un, .un, .un, .un], []⟩ _
  refine ex_cut (fun s => ∃ b : Bag, WB 1000000 b ∧ s = ⟨[.ro ns, .own 0, .un, .un, .un, .un, .un, .un, .un, .un, .un, .un, .un, .un, .un, .un, .un, .un, .un, .un, .un, .un, .un, .un, .un], [some b.d]⟩) ?_ ?_
  · refine ex_asg (ev_call0 (ar_cons ?_))
    walk_at "go"
    refine ⟨rfl, ns, rfl, rfl, hl, fun m' b i hw hm => ?_⟩
    show (match m'[i]? with | some (some ds) => _ | _ => False)
    rw [hm]
    walk_at "go"
    exact To.of _ ⟨b, hw, rfl⟩ (by walk_at "wk") (by walk_at "wk") (by simp)
  rintro _ ⟨b, hw, rfl⟩ _
  refine ex_cut (fun s => s = ⟨[.ro ns, .un, .un, .un, .un, .un, .un, .un, .un, .un, .un, .un, .un, .un, .un, .un, .un, .un, .un, .un, .un, .un, .un, .un, .un], []⟩) ?_ ?_
  · refine ex_for (it_range1 ?_)
    walk_at "go"
    refine ⟨_, rfl, by decide, by decide, fun i s => ∃ b' : Bag, i ≤ 5 ∧ WB (1000000 - 2000 * i) b' ∧ s = ⟨[.ro ns, .own 0, .un, .un, .un, .un, .un, .un, .un, .un, .un, .un, .un, .un, .un, .un, .un, .un, .un, .un, .un, .un, .un, .un, .un], [some b'.d]⟩,
      To.of _ ⟨b, by omega, hw, rfl⟩ (by walk_at "wk") (by walk_at "wk") (by simp), ?_, ?_⟩
    · rintro i d _ hd ⟨b1, hi, hw1, rfl⟩ _
      obtain ⟨hi', rfl⟩ := rangeD_at hd
      have hi' : i < 5 := hi'
      clear hd hw
      refine g_name ?_
      walk_at "nrm"
      refine ex_cut (fun s => ∃ (b' : Bag) (xs : List Str), NmOk xs ∧ xs.length ≤ 9 ∧ WB (999800 - 2000 * i) b' ∧ s = ⟨[.ro ns, .own 0, .un, .dat (namesD xs), .un, .un, .un, .un, .un, .un, .un, .un, .un, .un, .un, .un, .un, .un, .un, .un, .un, .un, .un, .un, .un], [some b'.d]⟩) ?_ ?_
      · walk_at "go"
        refine use_some (T := 999950 - 2000 * i) rfl (hw1.less (by omega)) rfl (by nofun) (by simp) fun d b2 hd hw2 => ?_
        obtain ⟨v, v1, v8, rfl⟩ : ∃ v : Nat, 1 ≤ v ∧ v ≤ 8 ∧ d = .int (v : Int) := by
          simp only [List.mem_cons, List.not_mem_nil, or_false] at hd
          rcases hd with rfl | rfl | rfl | rfl
          · exact ⟨2, by decide, by decide, rfl⟩
          · exact ⟨3, by decide, by decide, rfl⟩
          · exact ⟨1, by decide, by decide, rfl⟩
          · exact ⟨5, by decide, by decide, rfl⟩
        walk_at "go"
        refine use_names (T := 999800 - 2000 * i) rfl (hw2.less (by omega)) v1 (by omega) fun xs b3 hl1 ok nd hw3 => ?_
        walk_at "go"
        exact To.of _ ⟨b3, xs, ⟨ok, fun z => by rw [z] at hl1; simp at hl1; omega, by omega⟩, by omega, hw3, rfl⟩ (by walk_at "wk") (by walk_at "wk") (by simp)
      rintro _ ⟨b2, xs, hx, hxl, hw2, rfl⟩ _
      clear hw1
      have sub : ∀ w : List Str, (∀ x ∈ w, x ∈ xs) → NamesOk w := fun w h x hm => hx.ok x (h x hm)
      refine ex_cut (fun s => ∃ (b' : Bag) (st : List Str), Wd 4 st ∧ Red st ∧ WB (999690 - 2000 * i) b' ∧ s = ⟨[.ro ns, .own 0, .un, .dat (namesD xs), .dat (.tuple (dS st)), .un, .un, .un, .un, .un, .un, .un, .un, .un, .un, .un, .un, .un, .un, .un, .un, .un, .un, .un, .un], [some b'.d]⟩) ?_ ?_
      · walk_at "go"
        refine use_wordN (most := 4) (T := 999690 - 2000 * i) rfl (hw2.less (by omega)) hx (by decide) fun w b3 h1 h2 hw3 => ?_
        walk_at "go"
        refine use_lred17 (sub w h1) (by omega) ?_
        walk_at "go"
        exact To.of _ ⟨b3, redS w, wd_red (sub w h1) h2, red_redS w, hw3, rfl⟩ (by walk_at "wk") (by walk_at "wk") (by simp)
      rintro _ ⟨b3, st, hst, rst, hw3, rfl⟩ _
      clear hw2
      have lst := hst.ln
      refine ex_cut (fun s => ∃ (b' : Bag) (ws : List (List Str)), (∀ w ∈ ws, Wd 9 w ∧ Red w) ∧ ws.length = 3 ∧ WB (999300 - 2000 * i) b' ∧ s = ⟨[.ro ns, .own 0, .un, .dat (namesD xs), .un, .own 1, .un, .un, .un, .un, .un, .un, .un, .un, .un, .un, .un, .un, .un, .un, .un, .un, .un, .un, .un], [some b'.d, some (.list (ws.map wD))]⟩) ?_ ?_
      · walk_at "go"
        refine ev_lc gw_name (it_range1 ?_)
        walk_at "go"
        refine ⟨_, rfl, by decide, by decide, fun m s => ∃ (b' : Bag) (ws : List (List Str)), m ≤ 3 ∧ (∀ w ∈ ws, Wd 9 w ∧ Red w) ∧ ws.length = m ∧ WB (999690 - 2000 * i - 110 * m) b' ∧ s = ⟨[.ro ns, .own 0, .un, .dat (namesD xs), .dat (.tuple (dS st)), .un, .un, .un, .un, .un, .un, .un, .un, .un, .un, .un, .un, .un, .un, .un, .un, .un, .un, .un, .un], [some b'.d, some (.list (ws.map wD))]⟩, ?_, ?_, ?_⟩
        · exact ⟨b3, [], by omega, by nofun, rfl, hw3, rfl⟩
        · rintro m d _ hd ⟨b4, ws, hm, hws, hwl, hw4, rfl⟩ _
          obtain ⟨hm', rfl⟩ := rangeD_at hd
          have hm' : m < 3 := by omega
          walk_at "go"
          refine use_take (T := 999690 - 2000 * i - 110 * m - 1) rfl (hw4.less (by omega)) (by decide) (by decide) fun v b5 v0 v1 hw5 => ?_
          obtain ⟨v, rfl⟩ := Int.eq_ofNat_of_zero_le v0
          walk_at "go"
          refine use_wordN (most := 5) (T := 999690 - 2000 * i - 110 * (m + 1)) rfl (hw5.less (by omega)) hx (by decide) fun w b6 h1 h2 hw6 => ?_
          have hcut : SH.cutD (dS st) none (some (v : Int)) = dS (st.take v) := cut_tS st v
          walk_at "go"
          rotate_left
          · rw [hcut, dS_len, dS_len, List.length_take, sizeLine_eq]; omega
          rw [hcut, show dS (st.take v) ++ dS w = dS (st.take v ++ w) by simp [dS]]
          have nm := nm_app (fun x hx => hst.nm x (List.mem_of_mem_take hx) : NamesOk (st.take v)) (sub w h1)
          have ln : (st.take v ++ w).length ≤ 9 := by rw [List.length_append, List.length_take]; omega
          refine use_lred17 nm (by omega) ?_
          walk_at "go"
          refine ⟨_, rfl, small (by rw [List.length_map]; omega), ?_⟩
          refine To.of _ ⟨b6, ws ++ [redS (st.take v ++ w)], by omega, fun y hy => ?_, by rw [List.length_append]; simp only [List.length_cons, List.length_nil]; omega, hw6, rfl⟩ (by walk_at "wk") (by simp [WkMs, wD]) (by simp)
          rcases List.mem_append.mp hy with hy | hy
          · exact hws y hy
          · rw [List.mem_singleton.mp hy]
            exact ⟨wd_red nm ln, red_redS _⟩
        · rintro _ ⟨b4, ws, hm, hws, hwl, hw4, rfl⟩
          walk_at "go"
          have hw3 : ws.length = 3 := hwl
          exact To.of _ ⟨b4, ws, hws, hw3, hw4.less (by have : (rangeD 0 3).length = 3 := rfl; omega), rfl⟩ (by walk_at "wk") (by walk_at "wk") (by simp)
      rintro _ ⟨b4, ws, hws, hwl, hw4, rfl⟩ _
      clear hw3
      obtain ⟨a, c, d, rfl⟩ : ∃ a c d, ws = [a, c, d] := by
        match ws, hwl with
        | [a, c, d], _ => exact ⟨a, c, d, rfl⟩
      obtain ⟨ha, ra⟩ := hws a (by simp)
      obtain ⟨hc, rc⟩ := hws c (by simp)
      obtain ⟨hd, rdd⟩ := hws d (by simp)
      clear hws hwl
      refine ex_fz (i := 1) rfl ?_
      walk_at "nrm"
      refine ex_wk (s1 := ⟨[.ro ns, .own 0, .un, .dat (namesD xs), .un, .dat (.list [wD a, wD c, wD d]), .un, .un, .un, .un, .un, .un, .un, .un, .un, .un, .un, .un, .un, .un, .un, .un, .un, .un, .un], [some b4.d]⟩) (Wk.of (by walk_at "wk") (by walk_at "wk")) (by simp) ?_
      refine ex_cut (fun s => s = ⟨[.ro ns, .own 0, .un, .dat (namesD xs), .un, .dat (.list [wD a, wD c, wD d]), .dat (.tuple (dS a)), .dat (.tuple (dS c)), .dat (.tuple (dS d)), .un, .un, .un, .un, .un, .un, .un, .un, .un, .un, .un, .un, .un, .un, .un, .un], [some b4.d]⟩) ?_ ?_
      · walk_at "go"
        refine g_lst rfl rfl rfl ?_
        walk_at "go"
        exact To.of _ rfl (by walk_at "wk") (by walk_at "wk") (by simp)
      rintro _ rfl _
      have hM : Wd 9 (medW a c d) := med_wd ha hc
      have rM : Red (medW a c d) := med_red ra rc
      have fr := fun (i : Nat) (x : D) h => far_at (i := i) (x := x) ha hc hd h
      have mp : ∀ u v w : List Str, [u, v, w].Perm [a, c, d] → medW u v w = medW a c d := fun u v w h => med_perm h
      refine ex_cut (fun s => s = ⟨[.ro ns, .own 0, .un, .dat (namesD xs), .un, .dat (.list [wD a, wD c, wD d]), .dat (.tuple (dS a)), .dat (.tuple (dS c)), .dat (.tuple (dS d)), .dat (.tuple (dS (medW a c d))), .un, .un, .un, .un, .un, .un, .un, .un, .un, .un, .un, .un, .un, .un, .un], [some b4.d]⟩) ?_ ?_
      · walk_at "go"
        refine use_med (ha.wo (by decide)) (hc.wo (by decide)) (hd.wo (by decide)) ?_
        walk_at "go"
        exact To.of _ rfl (by walk_at "wk") (by walk_at "wk") (by simp)
      rintro _ rfl _
      generalize medW a c d = M at hM rM fr mp
      have lM := hM.ln
      refine ex_cut (fun s => s = ⟨[.ro ns, .own 0, .un, .dat (namesD xs), .un, .dat (.list [wD a, wD c, wD d]), .dat (.tuple (dS a)), .dat (.tuple (dS c)), .dat (.tuple (dS d)), .dat (.tuple (dS M)), .un, .un, .un, .un, .un, .un, .un, .un, .un, .un, .un, .un, .un, .un, .un], [some b4.d]⟩) ?_ ?_
      · walk_at "go"
        refine ⟨_, rfl, _, true, rfl, rfl, by nofun, fun h => absurd h (by decide), fun _ => ?_⟩
        walk_at "go"
        refine use_lred17 hM.nm (by omega) ?_
        rw [redS_red rM]
        walk_at "go"
        refine os_neW rfl rfl hM.nm hM.nm ?_
        walk_at "go"
        refine ⟨fun h => absurd h (by simp), fun _ => ?_⟩
        walk_at "go"
        exact To.of _ rfl (by walk_at "wk") (by walk_at "wk") (by simp)
      rintro _ rfl _
      refine ex_cut (fun s => s = ⟨[.ro ns, .own 0, .un, .dat (namesD xs), .un, .dat (.list [wD a, wD c, wD d]), .dat (.tuple (dS a)), .un, .un, .dat (.tuple (dS M)), .un, .un, .un, .un, .un, .un, .un, .un, .un, .un, .un, .un, .un, .un, .un], [some b4.d]⟩) ?_ ?_
      · refine ex_for (it_seq ?_)
        walk_at "go"
        refine ⟨_, rfl, fun _ s => s = ⟨[.ro ns, .own 0, .un, .dat (namesD xs), .un, .dat (.list [wD a, wD c, wD d]), .dat (.tuple (dS a)), .un, .un, .dat (.tuple (dS M)), .un, .un, .un, .un, .un, .un, .un, .un, .un, .un, .un, .un, .un, .un, .un], [some b4.d]⟩, To.of _ rfl (by walk_at "wk") (by walk_at "wk") (by simp), ?_, ?_⟩
        · rintro q x _ hx2 rfl _
          obtain ⟨u, v, hu, hv, rfl, e⟩ := fr _ _ hx2
          have lu := hu.ln
          have lv := hv.ln
          walk_at "go"
          refine use_far (by omega) (by omega) ?_
          walk_at "go"
          refine use_far (by omega) (by omega) ?_
          walk_at "go"
          refine use_far (by omega) (by omega) ?_
          walk_at "go"
          rw [e]
          refine ⟨fun h => absurd h (by simp), fun _ => ?_⟩
          walk_at "go"
          exact To.of _ rfl (by walk_at "wk") (by walk_at "wk") (by simp)
        · rintro _ rfl _
          exact To.of _ rfl (by walk_at "wk") (by walk_at "wk") (by simp)
      rintro _ rfl _
      refine ex_cut (fun s => ∃ (b' : Bag) (u v w : List Str), [u, v, w].Perm [a, c, d] ∧ WB (999290 - 2000 * i) b' ∧ s = ⟨[.ro ns, .own 0, .un, .dat (namesD xs), .un, .un, .dat (.tuple (dS a)), .un, .un, .dat (.tuple (dS M)), .un, .un, .dat (.list [wD u, wD v, wD w]), .un, .un, .un, .un, .un, .un, .un, .un, .un, .un, .un, .un], [some b'.d]⟩) ?_ ?_
      · walk_at "go"
        refine use_mixed (T := 999290 - 2000 * i) (ds := [wD a, wD c, wD d]) rfl (hw4.less (by simp; omega)) rfl (by simp) fun es b5 hp hw5 => ?_
        obtain ⟨u, v, w, pm, rfl⟩ := perm_three hp
        walk_at "go"
        exact To.of _ ⟨b5, u, v, w, pm, hw5, rfl⟩ (by walk_at "wk") (by walk_at "wk") (by simp)
      rintro _ ⟨b5, u, v, w, pm, hw5, rfl⟩ _
      clear hw4
      have inW : ∀ x, x ∈ [u, v, w] → Wd 9 x := fun x hx => by
        have := pm.mem_iff.mp hx
        simp only [List.mem_cons, List.not_mem_nil, or_false] at this
        rcases this with rfl | rfl | rfl
        · exact ha
        · exact hc
        · exact hd
      refine ex_cut (fun s => s = ⟨[.ro ns, .own 0, .un, .dat (namesD xs), .un, .un, .dat (.tuple (dS a)), .un, .un, .un, .un, .un, .un, .un, .un, .un, .un, .un, .un, .un, .un, .un, .un, .un, .un], [some b5.d]⟩) ?_ ?_
      · walk_at "go"
        refine use_med ((inW u (by simp)).wo (by decide)) ((inW v (by simp)).wo (by decide)) ((inW w (by simp)).wo (by decide)) ?_
        rw [mp u v w pm]
        walk_at "go"
        refine use_alikeA (W := 13 * M.length) (kk := 1) rfl (any_names hM.nm).tup (by omega) (by decide) ?_
        walk_at "go"
        exact To.of _ rfl (by walk_at "wk") (by walk_at "wk") (by simp)
      rintro _ rfl _
      refine ex_cut (fun s => ∃ (b' : Bag) (ss : List Side), (∀ s ∈ ss, SdOk s ∧ s.1.1.length ≤ 30) ∧ ss.length ≤ 6 ∧ WB (999000 - 2000 * i) b' ∧ s = ⟨[.ro ns, .own 0, .un, .dat (namesD xs), .un, .un, .dat (.tuple (dS a)), .un, .un, .un, .un, .un, .un, .dat (.list (ss.map sideD)), .un, .un, .un, .un, .un, .un, .un, .un, .un, .un, .un], [some b'.d]⟩) ?_ ?_
      · walk_at "go"
        refine use_sides (T := 999000 - 2000 * i) rfl (hw5.less (by omega)) hx ha.nm (by have := ha.ln; omega) fun ss b6 h1 h2 hw6 => ?_
        walk_at "go"
        exact To.of _ ⟨b6, ss, h1, h2, hw6, rfl⟩ (by walk_at "wk") (by walk_at "wk") (by simp)
      rintro _ ⟨b6, ss, hss, hsl, hw6, rfl⟩ _
      clear hw5 pm inW mp fr hM rM
      have hsd : ∀ s ∈ ss, SdOk s := fun s h => (hss s h).1
      have hok : ∀ s ∈ ss, SideOk s := fun s h => (hsd s h).ok
      have least := least_eq (a := a) hok
      have hEn : ∀ w ∈ a :: ss.map (fun s => s.2), NamesOk w ∧ w.length ≤ 101 := fun w hw => by
        rcases List.mem_cons.mp hw with rfl | hw
        · exact ⟨ha.nm, by have := ha.ln; omega⟩
        · obtain ⟨s, hs, rfl⟩ := List.mem_map.mp hw
          exact (hsd s hs).endW
      have hEl : (a :: ss.map fun s => s.2).length ≤ 7 := by simp; omega
      obtain ⟨E, hE⟩ : ∃ E, E = a :: ss.map fun s => s.2 := ⟨_, rfl⟩
      rw [← hE] at least hEn hEl
      refine ex_cut (fun s => s = ⟨[.ro ns, .own 0, .un, .un, .un, .un, .dat (.tuple (dS a)), .un, .un, .un, .un, .un, .un, .dat (.list (ss.map sideD)), .own 3, .un, .un, .un, .un, .un, .un, .un, .un, .un, .un], [some b6.d, none, none, some (.list (E.map wD))]⟩) ?_ ?_
      · walk_at "go"
        refine ev_lcT (gw_pair (by simp) (by simp)) (it_seq ?_)
        walk_at "go"
        refine ⟨_, rfl, ss.map fun s => wD s.2, by simp, by rw [List.length_map]; omega, ?_, ?_⟩
        · rintro q x e m' hx2 he rfl
          rw [List.getElem?_map] at hx2 he
          obtain ⟨s, hs, rfl⟩ := Option.map_eq_some_iff.mp hx2
          rw [hs] at he
          cases he
          walk_at "go"
          exact ⟨rfl, Wk.of (by walk_at "wk") (by walk_at "wk")⟩
        · walk_at "go"
          · have e : [PyData.tuple (dS a)] ++ ss.map (fun s => wD s.2) = E.map wD := by
              rw [hE, List.map_cons, List.map_map]; rfl
            refine To.of ⟨[.ro ns, .own 0, .un, .un, .un, .un, .dat (.tuple (dS a)), .un, .un, .un, .un, .un, .un, .dat (.list (ss.map sideD)), .own 3, .un, .un, .un, .un, .un, .un, .un, .un, .un, .un], [some b6.d, none, none, some (.list ([PyData.tuple (dS a)] ++ ss.map (fun s => wD s.2)))]⟩ (by rw [e]) (by walk_at "wk") (by walk_at "wk") (by simp)
          · rw [List.length_map, sizeLine_eq]; simp; omega
      rintro _ rfl _
      clear hE
      refine ex_fz (i := 3) rfl ?_
      walk_at "nrm"
      refine ex_wk (s1 := ⟨[.ro ns, .own 0, .un, .un, .un, .un, .dat (.tuple (dS a)), .un, .un, .un, .un, .un, .un, .dat (.list (ss.map sideD)), .dat (.list (E.map wD)), .un, .un, .un, .un, .un, .un, .un, .un, .un, .un], [some b6.d]⟩) (Wk.of (by walk_at "wk") (by walk_at "wk")) (by simp) ?_
      refine ex_cut (fun s => s = ⟨[.ro ns, .own 0, .un, .un, .un, .un, .dat (.tuple (dS a)), .un, .un, .un, .un, .un, .un, .dat (.list (ss.map sideD)), .un, .own 1, .un, .un, .un, .un, .un, .un, .un, .un, .un], [some b6.d, some (.list ((E.filter (goodL ss)).map wD))]⟩) ?_ ?_
      · walk_at "go"
        refine ev_lcG (it_seq ?_)
        walk_at "go"
        refine ⟨_, rfl, goodG ss, by rw [List.length_map]; omega, ?_, ?_⟩
        · rintro q x m' hx2 rfl
          rw [List.getElem?_map] at hx2
          obtain ⟨w, hw, rfl⟩ := Option.map_eq_some_iff.mp hx2
          have hwk := hEn w (List.mem_of_getElem? hw)
          walk_at "go"
          refine ev_lcF (gw_pair (by simp) (by simp)) (it_seq ?_)
          walk_at "go"
          refine ⟨_, rfl, offG w, by rw [List.length_map]; omega, ?_, ?_⟩
          · rintro r x m2 hx3 rfl
            obtain ⟨s, hs, rfl⟩ := side_at hx3
            walk_at "go"
            refine use_onSide (s := s) ⟨hwk.1, Nat.le_trans hwk.2 (by decide)⟩ (hsd s hs) ?_
            walk_at "go"
            refine ⟨fun h => ⟨.int 1, by rw [show (PyData.tuple [PyData.tuple [PyData.tuple (dS s.1.1), PyData.str s.1.2], PyData.tuple (dS s.2)]) = sideD s from rfl, offG_one, if_neg (by simpa using h)], ?_⟩, fun h => ⟨by rw [show (PyData.tuple [PyData.tuple [PyData.tuple (dS s.1.1), PyData.str s.1.2], PyData.tuple (dS s.2)]) = sideD s from rfl, offG_one, if_pos (by simpa using h)], Wk.of (by walk_at "wk") (by walk_at "wk")⟩⟩
            walk_at "go"
            exact ⟨rfl, Wk.of (by walk_at "wk") (by walk_at "wk")⟩
          · rw [offG_all]
            walk_at "go"
            refine os_eq (d := .list (dI ((ss.filter fun s => !onB w s).map fun _ => 1))) (e := .list []) rfl rfl (shaped_dI _) (by decide +kernel) ?_
            rw [eqv_nilL, off_empty]
            walk_at "go"
            refine ⟨fun h => ⟨wD w, by rw [goodG_one, if_pos h], ?_⟩, fun h => ⟨by rw [goodG_one, if_neg (by rw [h]; exact Bool.false_ne_true)], Wk.of (by walk_at "wk") (by walk_at "wk")⟩⟩
            walk_at "go"
            exact ⟨rfl, Wk.of (by walk_at "wk") (by walk_at "wk")⟩
        · rw [goodG_all]
          walk_at "go"
          exact To.of _ rfl (by walk_at "wk") (by walk_at "wk") (by simp)
      rintro _ rfl _
      have hGn : ∀ w ∈ E.filter (goodL ss), NamesOk w ∧ w.length ≤ 101 := fun w hw => hEn w (List.mem_filter.mp hw).1
      have hGl : (E.filter (goodL ss)).length ≤ 7 := Nat.le_trans (List.length_filter_le _ _) hEl
      generalize E.filter (goodL ss) = G at least hGn hGl
      refine ex_fz (i := 1) rfl ?_
      walk_at "nrm"
      refine ex_wk (s1 := ⟨[.ro ns, .own 0, .un, .un, .un, .un, .dat (.tuple (dS a)), .un, .un, .un, .un, .un, .un, .dat (.list (ss.map sideD)), .un, .dat (.list (G.map wD)), .un, .un, .un, .un, .un, .un, .un, .un, .un], [some b6.d]⟩) (Wk.of (by walk_at "wk") (by walk_at "wk")) (by simp) ?_
      have hal := ha.ln
      refine ex_cut (fun s => s = ⟨[.ro ns, .own 0, .un, .un, .un, .un, .dat (.tuple (dS a)), .un, .un, .un, .un, .un, .un, .dat (.list (ss.map sideD)), .un, .un, .own 3, .un, .un, .un, .un, .un, .un, .un, .un], [some b6.d, none, none, some (.list (leastD a ss))]⟩) ?_ ?_
      · walk_at "go"
        refine ev_lcP (it_seq ?_)
        walk_at "go"
        refine ⟨_, rfl, G.map (rowD a), by simp, by rw [List.length_map]; omega, ?_, ?_⟩
        · rintro q x e m' hx2 he rfl
          rw [List.getElem?_map] at hx2 he
          obtain ⟨w, hw, rfl⟩ := Option.map_eq_some_iff.mp hx2
          rw [hw] at he
          cases he
          have hwk := hGn w (List.mem_of_getElem? hw)
          walk_at "go"
          refine use_far (by omega) (by omega) ?_
          walk_at "go"
          exact ⟨rfl, Wk.of (by walk_at "wk") (by walk_at "wk")⟩
        · walk_at "go"
          refine cb_sortXD rfl (rows_alike _ _) (rows_sortable _ _) ?_ ?_ ?_ ?_
          · intro x hx2
            obtain ⟨w, hw, rfl⟩ := List.mem_map.mp hx2
            exact row_dp a w
          · exact rows_nd a G
          · rw [List.length_map, sizeLine_eq]; omega
          · walk_at "go"
            rw [show SH.cutD (sortD (G.map (rowD a))) none (some 1) = (sortD (G.map (rowD a))).take 1 from cut_to (k := 1), least]
            exact To.of _ rfl (by walk_at "wk") (by walk_at "wk") (by simp)
      rintro _ rfl _
      have sideA := any_sides hss hsl
      refine ex_cut (fun s => s = ⟨[.ro ns, .own 0, .un, .un, .un, .un, .dat (.tuple (dS a)), .un, .un, .un, .un, .un, .un, .dat (.list (ss.map sideD)), .un, .un, .un, .dat (nearD a ss), .dat (.str (PyData.list (ss.map sideD)).shown), .un, .un, .un, .un, .un, .un], [some b6.d]⟩) ?_ ?_
      · refine ex_par (ar_cons ?_)
        rcases near_two (a := a) ⟨ha.nm, by omega⟩ hsd with ⟨e1, e2, _⟩ | ⟨v, vn, vl, e1, e2, _⟩
        · rw [e1, e2]
          walk_at "go"
          refine os_ne (d := .list []) (e := .list []) rfl rfl (by decide +kernel) (by decide +kernel) ?_
          rw [eqv_nilL]
          refine ⟨_, rfl, fun h => absurd h (by decide), fun _ => ?_⟩
          walk_at "go"
          refine cb_reprV rfl (any_sh sideA (by decide)) (Nat.le_trans sideA.dp (by decide)) ?_
          walk_at "go"
          exact To.of _ rfl (by walk_at "wk") (by walk_at "wk") (by simp)
        · rw [e1, e2]
          walk_at "go"
          refine os_ne (d := .list [rowD a v]) (e := .list []) rfl rfl (shaped_row a vn) (by decide +kernel) ?_
          rw [eqv_nilL]
          refine ⟨_, rfl, fun _ => ?_, fun h => absurd h (by simp)⟩
          walk_at "go"
          refine cb_reprV rfl (any_sh sideA (by decide)) (Nat.le_trans sideA.dp (by decide)) ?_
          walk_at "go"
          exact To.of _ rfl (by walk_at "wk") (by walk_at "wk") (by simp)
      rintro _ rfl _
      have nA : Any 2000 1 (nearD a ss) := any_near ⟨ha.nm, by omega⟩ hsd
      refine ex_cut (fun s => ∃ b' : Bag, WB (998900 - 2000 * i) b' ∧ s = ⟨[.ro ns, .own 0, .un, .un, .un, .un, .un, .un, .un, .un, .un, .un, .un, .dat (.list (ss.map sideD)), .un, .un, .un, .dat (nearD a ss), .dat (.str (PyData.list (ss.map sideD)).shown), .un, .un, .un, .un, .un, .un], [some b'.d]⟩) ?_ ?_
      · walk_at "go"
        refine use_nearW (ss := ss) rfl (ha.wo (by decide)) hsd (by omega) ?_
        walk_at "go"
        refine use_mixed (T := 998900 - 2000 * i) (ds := ss.map sideD) rfl (hw6.less (by rw [List.length_map]; omega)) rfl (by rw [List.length_map]; omega) fun es b7 hp hw7 => ?_
        obtain ⟨ts, pts, rfl⟩ := perm_lift hp ss rfl
        have en : nearD a ts = nearD a ss := by unfold nearD; rw [near_perm hok pts]
        walk_at "go"
        refine use_nearW (ss := ts) rfl (ha.wo (by decide)) (fun s hs => hsd s (pts.mem_iff.mp hs)) (by rw [pts.length_eq]; omega) ?_
        rw [en]
        walk_at "go"
        refine use_alikeA (W := 5000) (kk := 2) rfl ((AnyA.cons nA (AnyA.cons nA AnyA.nil (V := 0))).lst.less (by omega) (by omega)) (by decide) (by decide) ?_
        walk_at "go"
        exact To.of _ ⟨b7, hw7, rfl⟩ (by walk_at "wk") (by walk_at "wk") (by simp)
      rintro _ ⟨b7, hw7, rfl⟩ _
      clear hw6
      refine ex_cut (fun s => s = ⟨[.ro ns, .own 0, .un, .un, .un, .un, .un, .un, .un, .un, .un, .un, .un, .dat (.list (ss.map sideD)), .un, .un, .un, .dat (nearD a ss), .un, .un, .un, .un, .un, .un, .un], [some b7.d]⟩) ?_ ?_
      · walk_at "go"
        refine cb_reprV rfl (any_sh sideA (by decide)) (Nat.le_trans sideA.dp (by decide)) ?_
        walk_at "go"
        refine ⟨fun h => absurd h (by simp), fun _ => ?_⟩
        walk_at "go"
        exact To.of _ rfl (by walk_at "wk") (by walk_at "wk") (by simp)
      rintro _ rfl _
      refine ex_cut (fun s => s = ⟨[.ro ns, .own 0, .un, .un, .un, .un, .un, .un, .un, .un, .un, .un, .un, .dat (.list (ss.map sideD)), .un, .un, .un, .dat (nearD a ss), .un, .own 1, .un, .un, .un, .un, .un], [some b7.d, some (.list [])]⟩) ?_ ?_
      · walk_at "go"
        exact To.of _ rfl (by walk_at "wk") (by walk_at "wk") (by simp)
      rintro _ rfl _
      refine ex_cut (fun s => s = ⟨[.ro ns, .own 0, .un, .un, .un, .un, .un, .un, .un, .un, .un, .un, .un, .un, .un, .un, .un, .dat (nearD a ss), .un, .own 1, .un, .un, .un, .un, .un], [some b7.d, some (.list (couples ss))]⟩) ?_ ?_
      · refine ex_for (it_seq ?_)
        walk_at "go"
        refine ⟨_, rfl, fun q s => s = ⟨[.ro ns, .own 0, .un, .un, .un, .un, .un, .un, .un, .un, .un, .un, .un, .dat (.list (ss.map sideD)), .un, .un, .un, .dat (nearD a ss), .un, .own 1, .un, .un, .un, .un, .un], [some b7.d, some (.list ((ss.take q).flatMap fun s => ss.map (bothD s)))]⟩, To.of _ rfl (by walk_at "wk") (by walk_at "wk") (by simp), ?_, ?_⟩
        · rintro q x _ hx2 rfl _
          rw [List.getElem?_map] at hx2
          obtain ⟨s, hs, rfl⟩ := Option.map_eq_some_iff.mp hx2
          have hq : q < ss.length := (List.getElem?_eq_some_iff.mp hs).1
          have nx : ss.take (q + 1) = ss.take q ++ [s] := by rw [List.take_succ, hs]; rfl
          have pl : ((ss.take q).flatMap fun s => ss.map (bothD s)).length ≤ 36 := by
            rw [flat_len, List.length_take]
            exact Nat.le_trans (Nat.mul_le_mul (show min q ss.length ≤ 6 by omega) hsl) (by decide)
          have nxe : ((ss.take (q + 1)).flatMap fun s => ss.map (bothD s)) = ((ss.take q).flatMap fun s => ss.map (bothD s)) ++ ss.map (bothD s) := by
            rw [nx, List.flatMap_append, List.flatMap_cons, List.flatMap_nil, List.append_nil]
          generalize ((ss.take q).flatMap fun s => ss.map (bothD s)) = pre at pl nxe ⊢
          refine g_name ?_
          walk_at "nrm"
          refine ex_for (it_seq ?_)
          walk_at "go"
          refine ⟨_, rfl, fun r s' => s' = ⟨[.ro ns, .own 0, .un, .un, .un, .un, .un, .un, .un, .un, .dat (sideD s), .un, .un, .dat (.list (ss.map sideD)), .un, .un, .un, .dat (nearD a ss), .un, .own 1, .un, .un, .un, .un, .un], [some b7.d, some (.list (pre ++ (ss.take r).map (bothD s)))]⟩, ?_, ?_, ?_⟩
          · refine To.of _ rfl (by walk_at "wk") ?_ (by simp)
            simp [WkMs]
          · rintro r x _ hx3 rfl _
            rw [List.getElem?_map] at hx3
            obtain ⟨t, ht, rfl⟩ := Option.map_eq_some_iff.mp hx3
            have hr : r < ss.length := (List.getElem?_eq_some_iff.mp ht).1
            have nx2 : ss.take (r + 1) = ss.take r ++ [t] := by rw [List.take_succ, ht]; rfl
            have pl2 : (pre ++ (ss.take r).map (bothD s)).length ≤ 42 := by rw [List.length_append, List.length_map, List.length_take]; omega
            have nx2e : pre ++ (ss.take (r + 1)).map (bothD s) = (pre ++ (ss.take r).map (bothD s)) ++ [bothD s t] := by
              rw [nx2, List.map_append, List.map_cons, List.map_nil, List.append_assoc]
            generalize pre ++ (ss.take r).map (bothD s) = pr2 at pl2 nx2e ⊢
            have sk := hsd s (List.mem_of_getElem? hs)
            have tk := hsd t (List.mem_of_getElem? ht)
            refine g_name ?_
            walk_at "nrm"
            refine ex_cut (fun s' => s' = ⟨[.ro ns, .own 0, .un, .un, .un, .un, .un, .un, .un, .un, .dat (sideD s), .dat (sideD t), .un, .dat (.list (ss.map sideD)), .un, .un, .un, .dat (nearD a ss), .un, .own 1, .own 2, .un, .un, .un, .un], [some b7.d, some (.list pr2), some (.list [wD s.2, wD t.2])]⟩) ?_ ?_
            · walk_at "go"
              refine To.of ⟨[.ro ns, .own 0, .un, .un, .un, .un, .un, .un, .un, .un, .dat (sideD s), .dat (sideD t), .un, .dat (.list (ss.map sideD)), .un, .un, .un, .dat (nearD a ss), .un, .own 1, .own 2, .un, .un, .un, .un], [some b7.d, some (.list pr2), some (.list [wD s.2, wD t.2])]⟩ rfl (by walk_at "wk") (by simp [WkMs, wD, sideD, edgeD]) (by simp)
            rintro _ rfl _
            refine ex_fz (i := 2) rfl ?_
            walk_at "nrm"
            refine ex_wk (s1 := ⟨[.ro ns, .own 0, .un, .un, .un, .un, .un, .un, .un, .un, .dat (sideD s), .dat (sideD t), .un, .dat (.list (ss.map sideD)), .un, .un, .un, .dat (nearD a ss), .un, .own 1, .dat (.list [wD s.2, wD t.2]), .un, .un, .un, .un], [some b7.d, some (.list pr2)]⟩) (Wk.of (by walk_at "wk") (by walk_at "wk")) (by simp) ?_
            walk_at "go"
            refine ev_lcG (it_seq ?_)
            walk_at "go"
            refine ⟨_, rfl, goodG [s, t], by simp, ?_, ?_⟩
            · rintro q x m' hx4 rfl
              obtain ⟨w, hwk, rfl⟩ : ∃ w, (NamesOk w ∧ w.length ≤ 101) ∧ x = wD w := by
                match q, hx4 with
                | 0, h => cases h; exact ⟨s.2, sk.endW, rfl⟩
                | 1, h => cases h; exact ⟨t.2, tk.endW, rfl⟩
                | n + 2, h => cases h
              have gt : goodL [s, t] w = (onB w s && onB w t) := by unfold goodL; simp
              walk_at "go"
              refine use_onSide (s := s) ⟨hwk.1, Nat.le_trans hwk.2 (by decide)⟩ sk ?_
              walk_at "go"
              refine ⟨fun h1 => ?_, fun h1 => ⟨fun h => (by cases h), fun _ => ⟨by rw [goodG_one, gt, h1, Bool.false_and, if_neg Bool.false_ne_true], Wk.of (by walk_at "wk") (by walk_at "wk")⟩⟩⟩
              walk_at "go"
              refine use_onSide (s := t) ⟨hwk.1, Nat.le_trans hwk.2 (by decide)⟩ tk ?_
              walk_at "go"
              refine ⟨fun h2 => ⟨wD w, by rw [goodG_one, gt, h1, h2]; rfl, ?_⟩, fun h2 => ⟨by rw [goodG_one, gt, h1, h2]; rfl, Wk.of (by walk_at "wk") (by walk_at "wk")⟩⟩
              walk_at "go"
              exact ⟨rfl, Wk.of (by walk_at "wk") (by walk_at "wk")⟩
            · rw [bothG_eq]
              walk_at "go"
              refine mt_fz rfl ?_
              walk_at "go"
              · exact To.of ⟨[.ro ns, .own 0, .un, .un, .un, .un, .un, .un, .un, .un, .dat (sideD s), .un, .un, .dat (.list (ss.map sideD)), .un, .un, .un, .dat (nearD a ss), .un, .own 1, .un, .un, .un, .un, .un], [some b7.d, some (.list (pr2 ++ [bothD s t]))]⟩ (by show _ = _; rw [nx2e]) (by walk_at "wk") (by walk_at "wk") (by simp)
              · rw [sizeLine_eq]; omega
          · rintro _ rfl _
            have ta : ss.take (ss.map sideD).length = ss := by rw [List.length_map, List.take_length]
            rw [ta]
            refine To.of ⟨[.ro ns, .own 0, .un, .un, .un, .un, .un, .un, .un, .un, .un, .un, .un, .dat (.list (ss.map sideD)), .un, .un, .un, .dat (nearD a ss), .un, .own 1, .un, .un, .un, .un, .un], [some b7.d, some (.list (pre ++ ss.map (bothD s)))]⟩ ?_ (by walk_at "wk") (by walk_at "wk") (by simp)
            show _ = _
            rw [nxe]
        · rintro _ rfl _
          have ta : ss.take (ss.map sideD).length = ss := by rw [List.length_map, List.take_length]
          rw [ta]
          exact To.of _ rfl (by walk_at "wk") (by walk_at "wk") (by simp)
      rintro _ rfl _
      walk_at "go"
      have anyE := couples_any (a := a) hok
      have layE := couples_lay hsd
      generalize couples ss = cs at anyE layE
      rcases near_two (a := a) ⟨ha.nm, by omega⟩ hsd with ⟨_, e2, e3⟩ | ⟨v, vn, vl, _, e2, e3⟩
      · rw [e2]
        refine os_isN rfl rfl ?_
        walk_at "go"
        refine os_inA rfl rfl rfl (by decide +kernel) layE (by decide) ?_
        rw [anyE, e3]
        walk_at "go"
        refine os_neR rfl rfl rfl (sh_bool _) ?_
        refine ⟨_, rfl, fun h => absurd h (by decide), fun _ => ?_⟩
        walk_at "go"
        exact To.of _ ⟨b7, by omega, hw7.less (by omega), rfl⟩ (by walk_at "wk") (by walk_at "wk") (by simp)
      · rw [e2]
        refine os_isN rfl rfl ?_
        walk_at "go"
        refine os_inA rfl rfl rfl (by decide +kernel) layE (by decide) ?_
        rw [anyE, e3]
        walk_at "go"
        refine os_neR rfl rfl rfl (sh_bool _) ?_
        refine ⟨_, rfl, fun h => absurd h (by decide), fun _ => ?_⟩
        walk_at "go"
        exact To.of _ ⟨b7, by omega, hw7.less (by omega), rfl⟩ (by walk_at "wk") (by walk_at "wk") (by simp)
    · rintro _ ⟨b1, hi, hw1, rfl⟩ _
      exact To.of _ rfl (by walk_at "wk") (by walk_at "wk") (by simp)
  rintro _ rfl _
  walk_at "go"
  exact k _
  )]
  intro _ hNoI
  simpa using (fun (_ : NoI.Sg) => hNoI) [5]
end LW

end

namespace LW
open PySem PySem.Spec PyProof.Rows L2 SH
theorem len_common_length : ∀ svs m Ψ, C_common_length svs m Ψ → svs.length = 2 := by (rintro svs m Ψ h; first | (obtain ⟨_, rfl, _⟩ := h; rfl) | (obtain ⟨_, _, rfl, _⟩ := h; rfl) | (obtain ⟨_, _, _, rfl, _⟩ := h; rfl) | (obtain ⟨_, _, _, _, rfl, _⟩ := h; rfl) | (obtain ⟨_, _, _, _, _, rfl, _⟩ := h; rfl) | (obtain ⟨_, _, _, _, _, _, rfl, _⟩ := h; rfl) | (obtain ⟨_, _, _, _, _, _, _, rfl, _⟩ := h; rfl) | (obtain ⟨_, _, _, _, _, _, _, _, rfl, _⟩ := h; rfl) | (obtain ⟨_, _, ⟨rfl, _⟩ | ⟨rfl, _⟩, _⟩ := h <;> rfl) | (obtain ⟨_, ⟨rfl, _⟩ | ⟨rfl, _⟩, _⟩ := h <;> rfl))
theorem len_begins_with : ∀ svs m Ψ, C_begins_with svs m Ψ → svs.length = 2 := by (rintro svs m Ψ h; first | (obtain ⟨_, rfl, _⟩ := h; rfl) | (obtain ⟨_, _, rfl, _⟩ := h; rfl) | (obtain ⟨_, _, _, rfl, _⟩ := h; rfl) | (obtain ⟨_, _, _, _, rfl, _⟩ := h; rfl) | (obtain ⟨_, _, _, _, _, rfl, _⟩ := h; rfl) | (obtain ⟨_, _, _, _, _, _, rfl, _⟩ := h; rfl) | (obtain ⟨_, _, _, _, _, _, _, rfl, _⟩ := h; rfl) | (obtain ⟨_, _, _, _, _, _, _, _, rfl, _⟩ := h; rfl) | (obtain ⟨_, _, ⟨rfl, _⟩ | ⟨rfl, _⟩, _⟩ := h <;> rfl) | (obtain ⟨_, ⟨rfl, _⟩ | ⟨rfl, _⟩, _⟩ := h <;> rfl))
theorem len_longer_end : ∀ svs m Ψ, C_longer_end svs m Ψ → svs.length = 1 := by (rintro svs m Ψ h; first | (obtain ⟨_, rfl, _⟩ := h; rfl) | (obtain ⟨_, _, rfl, _⟩ := h; rfl) | (obtain ⟨_, _, _, rfl, _⟩ := h; rfl) | (obtain ⟨_, _, _, _, rfl, _⟩ := h; rfl) | (obtain ⟨_, _, _, _, _, rfl, _⟩ := h; rfl) | (obtain ⟨_, _, _, _, _, _, rfl, _⟩ := h; rfl) | (obtain ⟨_, _, _, _, _, _, _, rfl, _⟩ := h; rfl) | (obtain ⟨_, _, _, _, _, _, _, _, rfl, _⟩ := h; rfl) | (obtain ⟨_, _, ⟨rfl, _⟩ | ⟨rfl, _⟩, _⟩ := h <;> rfl) | (obtain ⟨_, ⟨rfl, _⟩ | ⟨rfl, _⟩, _⟩ := h <;> rfl))
theorem len_median_word : ∀ svs m Ψ, C_median_word svs m Ψ → svs.length = 3 := by (rintro svs m Ψ h; first | (obtain ⟨_, rfl, _⟩ := h; rfl) | (obtain ⟨_, _, rfl, _⟩ := h; rfl) | (obtain ⟨_, _, _, rfl, _⟩ := h; rfl) | (obtain ⟨_, _, _, _, rfl, _⟩ := h; rfl) | (obtain ⟨_, _, _, _, _, rfl, _⟩ := h; rfl) | (obtain ⟨_, _, _, _, _, _, rfl, _⟩ := h; rfl) | (obtain ⟨_, _, _, _, _, _, _, rfl, _⟩ := h; rfl) | (obtain ⟨_, _, _, _, _, _, _, _, rfl, _⟩ := h; rfl) | (obtain ⟨_, _, ⟨rfl, _⟩ | ⟨rfl, _⟩, _⟩ := h <;> rfl) | (obtain ⟨_, ⟨rfl, _⟩ | ⟨rfl, _⟩, _⟩ := h <;> rfl))
theorem len_nearest : ∀ svs m Ψ, C_nearest svs m Ψ → svs.length = 2 := by (rintro svs m Ψ h; first | (obtain ⟨_, rfl, _⟩ := h; rfl) | (obtain ⟨_, _, rfl, _⟩ := h; rfl) | (obtain ⟨_, _, _, rfl, _⟩ := h; rfl) | (obtain ⟨_, _, _, _, rfl, _⟩ := h; rfl) | (obtain ⟨_, _, _, _, _, rfl, _⟩ := h; rfl) | (obtain ⟨_, _, _, _, _, _, rfl, _⟩ := h; rfl) | (obtain ⟨_, _, _, _, _, _, _, rfl, _⟩ := h; rfl) | (obtain ⟨_, _, _, _, _, _, _, _, rfl, _⟩ := h; rfl) | (obtain ⟨_, _, ⟨rfl, _⟩ | ⟨rfl, _⟩, _⟩ := h <;> rfl) | (obtain ⟨_, ⟨rfl, _⟩ | ⟨rfl, _⟩, _⟩ := h <;> rfl))
theorem len__law_bag : ∀ svs m Ψ, C__law_bag svs m Ψ → svs.length = 1 := by (rintro svs m Ψ h; first | (obtain ⟨_, rfl, _⟩ := h; rfl) | (obtain ⟨_, _, rfl, _⟩ := h; rfl) | (obtain ⟨_, _, _, rfl, _⟩ := h; rfl) | (obtain ⟨_, _, _, _, rfl, _⟩ := h; rfl) | (obtain ⟨_, _, _, _, _, rfl, _⟩ := h; rfl) | (obtain ⟨_, _, _, _, _, _, rfl, _⟩ := h; rfl) | (obtain ⟨_, _, _, _, _, _, _, rfl, _⟩ := h; rfl) | (obtain ⟨_, _, _, _, _, _, _, _, rfl, _⟩ := h; rfl) | (obtain ⟨_, _, ⟨rfl, _⟩ | ⟨rfl, _⟩, _⟩ := h <;> rfl) | (obtain ⟨_, ⟨rfl, _⟩ | ⟨rfl, _⟩, _⟩ := h <;> rfl))
theorem len__law_take : ∀ svs m Ψ, C__law_take svs m Ψ → svs.length = 2 := by (rintro svs m Ψ h; first | (obtain ⟨_, rfl, _⟩ := h; rfl) | (obtain ⟨_, _, rfl, _⟩ := h; rfl) | (obtain ⟨_, _, _, rfl, _⟩ := h; rfl) | (obtain ⟨_, _, _, _, rfl, _⟩ := h; rfl) | (obtain ⟨_, _, _, _, _, rfl, _⟩ := h; rfl) | (obtain ⟨_, _, _, _, _, _, rfl, _⟩ := h; rfl) | (obtain ⟨_, _, _, _, _, _, _, rfl, _⟩ := h; rfl) | (obtain ⟨_, _, _, _, _, _, _, _, rfl, _⟩ := h; rfl) | (obtain ⟨_, _, ⟨rfl, _⟩ | ⟨rfl, _⟩, _⟩ := h <;> rfl) | (obtain ⟨_, ⟨rfl, _⟩ | ⟨rfl, _⟩, _⟩ := h <;> rfl))
theorem len__law_some : ∀ svs m Ψ, C__law_some svs m Ψ → svs.length = 2 := by (rintro svs m Ψ h; first | (obtain ⟨_, rfl, _⟩ := h; rfl) | (obtain ⟨_, _, rfl, _⟩ := h; rfl) | (obtain ⟨_, _, _, rfl, _⟩ := h; rfl) | (obtain ⟨_, _, _, _, rfl, _⟩ := h; rfl) | (obtain ⟨_, _, _, _, _, rfl, _⟩ := h; rfl) | (obtain ⟨_, _, _, _, _, _, rfl, _⟩ := h; rfl) | (obtain ⟨_, _, _, _, _, _, _, rfl, _⟩ := h; rfl) | (obtain ⟨_, _, _, _, _, _, _, _, rfl, _⟩ := h; rfl) | (obtain ⟨_, _, ⟨rfl, _⟩ | ⟨rfl, _⟩, _⟩ := h <;> rfl) | (obtain ⟨_, ⟨rfl, _⟩ | ⟨rfl, _⟩, _⟩ := h <;> rfl))
theorem len__law_mixed : ∀ svs m Ψ, C__law_mixed svs m Ψ → svs.length = 2 := by (rintro svs m Ψ h; first | (obtain ⟨_, rfl, _⟩ := h; rfl) | (obtain ⟨_, _, rfl, _⟩ := h; rfl) | (obtain ⟨_, _, _, rfl, _⟩ := h; rfl) | (obtain ⟨_, _, _, _, rfl, _⟩ := h; rfl) | (obtain ⟨_, _, _, _, _, rfl, _⟩ := h; rfl) | (obtain ⟨_, _, _, _, _, _, rfl, _⟩ := h; rfl) | (obtain ⟨_, _, _, _, _, _, _, rfl, _⟩ := h; rfl) | (obtain ⟨_, _, _, _, _, _, _, _, rfl, _⟩ := h; rfl) | (obtain ⟨_, _, ⟨rfl, _⟩ | ⟨rfl, _⟩, _⟩ := h <;> rfl) | (obtain ⟨_, ⟨rfl, _⟩ | ⟨rfl, _⟩, _⟩ := h <;> rfl))
theorem len__law_alike : ∀ svs m Ψ, C__law_alike svs m Ψ → svs.length = 2 := by (rintro svs m Ψ h; first | (obtain ⟨_, rfl, _⟩ := h; rfl) | (obtain ⟨_, _, rfl, _⟩ := h; rfl) | (obtain ⟨_, _, _, rfl, _⟩ := h; rfl) | (obtain ⟨_, _, _, _, rfl, _⟩ := h; rfl) | (obtain ⟨_, _, _, _, _, rfl, _⟩ := h; rfl) | (obtain ⟨_, _, _, _, _, _, rfl, _⟩ := h; rfl) | (obtain ⟨_, _, _, _, _, _, _, rfl, _⟩ := h; rfl) | (obtain ⟨_, _, _, _, _, _, _, _, rfl, _⟩ := h; rfl) | (obtain ⟨_, _, ⟨rfl, _⟩ | ⟨rfl, _⟩, _⟩ := h <;> rfl) | (obtain ⟨_, ⟨rfl, _⟩ | ⟨rfl, _⟩, _⟩ := h <;> rfl))
theorem len__law_names : ∀ svs m Ψ, C__law_names svs m Ψ → svs.length = 2 := by (rintro svs m Ψ h; first | (obtain ⟨_, rfl, _⟩ := h; rfl) | (obtain ⟨_, _, rfl, _⟩ := h; rfl) | (obtain ⟨_, _, _, rfl, _⟩ := h; rfl) | (obtain ⟨_, _, _, _, rfl, _⟩ := h; rfl) | (obtain ⟨_, _, _, _, _, rfl, _⟩ := h; rfl) | (obtain ⟨_, _, _, _, _, _, rfl, _⟩ := h; rfl) | (obtain ⟨_, _, _, _, _, _, _, rfl, _⟩ := h; rfl) | (obtain ⟨_, _, _, _, _, _, _, _, rfl, _⟩ := h; rfl) | (obtain ⟨_, _, ⟨rfl, _⟩ | ⟨rfl, _⟩, _⟩ := h <;> rfl) | (obtain ⟨_, ⟨rfl, _⟩ | ⟨rfl, _⟩, _⟩ := h <;> rfl))
theorem len__law_reduced : ∀ svs m Ψ, C__law_reduced svs m Ψ → svs.length = 1 := by (rintro svs m Ψ h; first | (obtain ⟨_, rfl, _⟩ := h; rfl) | (obtain ⟨_, _, rfl, _⟩ := h; rfl) | (obtain ⟨_, _, _, rfl, _⟩ := h; rfl) | (obtain ⟨_, _, _, _, rfl, _⟩ := h; rfl) | (obtain ⟨_, _, _, _, _, rfl, _⟩ := h; rfl) | (obtain ⟨_, _, _, _, _, _, rfl, _⟩ := h; rfl) | (obtain ⟨_, _, _, _, _, _, _, rfl, _⟩ := h; rfl) | (obtain ⟨_, _, _, _, _, _, _, _, rfl, _⟩ := h; rfl) | (obtain ⟨_, _, ⟨rfl, _⟩ | ⟨rfl, _⟩, _⟩ := h <;> rfl) | (obtain ⟨_, ⟨rfl, _⟩ | ⟨rfl, _⟩, _⟩ := h <;> rfl))
theorem len__law_way : ∀ svs m Ψ, C__law_way svs m Ψ → svs.length = 2 := by (rintro svs m Ψ h; first | (obtain ⟨_, rfl, _⟩ := h; rfl) | (obtain ⟨_, _, rfl, _⟩ := h; rfl) | (obtain ⟨_, _, _, rfl, _⟩ := h; rfl) | (obtain ⟨_, _, _, _, rfl, _⟩ := h; rfl) | (obtain ⟨_, _, _, _, _, rfl, _⟩ := h; rfl) | (obtain ⟨_, _, _, _, _, _, rfl, _⟩ := h; rfl) | (obtain ⟨_, _, _, _, _, _, _, rfl, _⟩ := h; rfl) | (obtain ⟨_, _, _, _, _, _, _, _, rfl, _⟩ := h; rfl) | (obtain ⟨_, _, ⟨rfl, _⟩ | ⟨rfl, _⟩, _⟩ := h <;> rfl) | (obtain ⟨_, ⟨rfl, _⟩ | ⟨rfl, _⟩, _⟩ := h <;> rfl))
theorem len__law_any_word : ∀ svs m Ψ, C__law_any_wordN svs m Ψ → svs.length = 3 := by (rintro svs m Ψ h; first | (obtain ⟨_, rfl, _⟩ := h; rfl) | (obtain ⟨_, _, rfl, _⟩ := h; rfl) | (obtain ⟨_, _, _, rfl, _⟩ := h; rfl) | (obtain ⟨_, _, _, _, rfl, _⟩ := h; rfl) | (obtain ⟨_, _, _, _, _, rfl, _⟩ := h; rfl) | (obtain ⟨_, _, _, _, _, _, rfl, _⟩ := h; rfl) | (obtain ⟨_, _, _, _, _, _, _, rfl, _⟩ := h; rfl) | (obtain ⟨_, _, _, _, _, _, _, _, rfl, _⟩ := h; rfl) | (obtain ⟨_, _, ⟨rfl, _⟩ | ⟨rfl, _⟩, _⟩ := h <;> rfl) | (obtain ⟨_, ⟨rfl, _⟩ | ⟨rfl, _⟩, _⟩ := h <;> rfl))
theorem len__law_far : ∀ svs m Ψ, C__law_far svs m Ψ → svs.length = 2 := by (rintro svs m Ψ h; first | (obtain ⟨_, rfl, _⟩ := h; rfl) | (obtain ⟨_, _, rfl, _⟩ := h; rfl) | (obtain ⟨_, _, _, rfl, _⟩ := h; rfl) | (obtain ⟨_, _, _, _, rfl, _⟩ := h; rfl) | (obtain ⟨_, _, _, _, _, rfl, _⟩ := h; rfl) | (obtain ⟨_, _, _, _, _, _, rfl, _⟩ := h; rfl) | (obtain ⟨_, _, _, _, _, _, _, rfl, _⟩ := h; rfl) | (obtain ⟨_, _, _, _, _, _, _, _, rfl, _⟩ := h; rfl) | (obtain ⟨_, _, ⟨rfl, _⟩ | ⟨rfl, _⟩, _⟩ := h <;> rfl) | (obtain ⟨_, ⟨rfl, _⟩ | ⟨rfl, _⟩, _⟩ := h <;> rfl))
theorem len__law_is_on_side : ∀ svs m Ψ, C__law_is_on_side svs m Ψ → svs.length = 3 := by (rintro svs m Ψ h; first | (obtain ⟨_, rfl, _⟩ := h; rfl) | (obtain ⟨_, _, rfl, _⟩ := h; rfl) | (obtain ⟨_, _, _, rfl, _⟩ := h; rfl) | (obtain ⟨_, _, _, _, rfl, _⟩ := h; rfl) | (obtain ⟨_, _, _, _, _, rfl, _⟩ := h; rfl) | (obtain ⟨_, _, _, _, _, _, rfl, _⟩ := h; rfl) | (obtain ⟨_, _, _, _, _, _, _, rfl, _⟩ := h; rfl) | (obtain ⟨_, _, _, _, _, _, _, _, rfl, _⟩ := h; rfl) | (obtain ⟨_, _, ⟨rfl, _⟩ | ⟨rfl, _⟩, _⟩ := h <;> rfl) | (obtain ⟨_, ⟨rfl, _⟩ | ⟨rfl, _⟩, _⟩ := h <;> rfl))
theorem len__law_sides : ∀ svs m Ψ, C__law_sides svs m Ψ → svs.length = 3 := by (rintro svs m Ψ h; first | (obtain ⟨_, rfl, _⟩ := h; rfl) | (obtain ⟨_, _, rfl, _⟩ := h; rfl) | (obtain ⟨_, _, _, rfl, _⟩ := h; rfl) | (obtain ⟨_, _, _, _, rfl, _⟩ := h; rfl) | (obtain ⟨_, _, _, _, _, rfl, _⟩ := h; rfl) | (obtain ⟨_, _, _, _, _, _, rfl, _⟩ := h; rfl) | (obtain ⟨_, _, _, _, _, _, _, rfl, _⟩ := h; rfl) | (obtain ⟨_, _, _, _, _, _, _, _, rfl, _⟩ := h; rfl) | (obtain ⟨_, _, ⟨rfl, _⟩ | ⟨rfl, _⟩, _⟩ := h <;> rfl) | (obtain ⟨_, ⟨rfl, _⟩ | ⟨rfl, _⟩, _⟩ := h <;> rfl))
theorem len_law : ∀ svs m Ψ, C_law svs m Ψ → svs.length = 1 := by (rintro svs m Ψ h; first | (obtain ⟨_, rfl, _⟩ := h; rfl) | (obtain ⟨_, _, rfl, _⟩ := h; rfl) | (obtain ⟨_, _, _, rfl, _⟩ := h; rfl) | (obtain ⟨_, _, _, _, rfl, _⟩ := h; rfl) | (obtain ⟨_, _, _, _, _, rfl, _⟩ := h; rfl) | (obtain ⟨_, _, _, _, _, _, rfl, _⟩ := h; rfl) | (obtain ⟨_, _, _, _, _, _, _, rfl, _⟩ := h; rfl) | (obtain ⟨_, _, _, _, _, _, _, _, rfl, _⟩ := h; rfl) | (obtain ⟨_, _, ⟨rfl, _⟩ | ⟨rfl, _⟩, _⟩ := h <;> rfl) | (obtain ⟨_, ⟨rfl, _⟩ | ⟨rfl, _⟩, _⟩ := h <;> rfl))
def topS (i : Nat) : Stmt := PySem.Challenge.pw_sparehop_k11_medians_and_nearest_words.main.body.getD i (.Pass ⟨0, 0, 0, 0⟩)
abbrev s_common_length : Stmt := topS 1
abbrev N_common_length : List Str := ["one", "other", "length"]
theorem sc_common_length : FnScope N_common_length ["one", "other"] (defScope s_common_length) := ⟨rfl, rfl, rfl, by decide +kernel, rfl, by decide +kernel, by decide +kernel⟩
abbrev s_begins_with : Stmt := topS 2
abbrev N_begins_with : List Str := ["word", "beginning"]
theorem sc_begins_with : FnScope N_begins_with ["word", "beginning"] (defScope s_begins_with) := ⟨rfl, rfl, rfl, by decide +kernel, rfl, by decide +kernel, by decide +kernel⟩
abbrev s_longer_end : Stmt := topS 3
abbrev N_longer_end : List Str := ["edge", "word", "service"]
theorem sc_longer_end : FnScope N_longer_end ["edge"] (defScope s_longer_end) := ⟨rfl, rfl, rfl, by decide +kernel, rfl, by decide +kernel, by decide +kernel⟩
abbrev s_median_word : Stmt := topS 4
abbrev N_median_word : List Str := ["one", "other", "third", "pairs", "first", "second"]
theorem sc_median_word : FnScope N_median_word ["one", "other", "third"] (defScope s_median_word) := ⟨rfl, rfl, rfl, by decide +kernel, rfl, by decide +kernel, by decide +kernel⟩
abbrev s_nearest : Stmt := topS 5
abbrev N_nearest : List Str := ["one", "sides", "inside", "outside", "top", "barred", "edge", "word", "end"]
theorem sc_nearest : FnScope N_nearest ["one", "sides"] (defScope s_nearest) := ⟨rfl, rfl, rfl, by decide +kernel, rfl, by decide +kernel, by decide +kernel⟩
abbrev s__law_bag : Stmt := topS 7
abbrev N__law_bag : List Str := ["script", "cell"]
theorem sc__law_bag : FnScope N__law_bag ["script"] (defScope s__law_bag) := ⟨rfl, rfl, rfl, by decide +kernel, rfl, by decide +kernel, by decide +kernel⟩
abbrev s__law_take : Stmt := topS 8
abbrev N__law_take : List Str := ["bag", "many", "cell", "stirred", "value", "begin", "second"]
theorem sc__law_take : FnScope N__law_take ["bag", "many"] (defScope s__law_take) := ⟨rfl, rfl, rfl, by decide +kernel, rfl, by decide +kernel, by decide +kernel⟩
abbrev s__law_some : Stmt := topS 9
abbrev N__law_some : List Str := ["bag", "things"]
theorem sc__law_some : FnScope N__law_some ["bag", "things"] (defScope s__law_some) := ⟨rfl, rfl, rfl, by decide +kernel, rfl, by decide +kernel, by decide +kernel⟩
abbrev s__law_mixed : Stmt := topS 10
abbrev N__law_mixed : List Str := ["bag", "things", "found", "thing"]
theorem sc__law_mixed : FnScope N__law_mixed ["bag", "things"] (defScope s__law_mixed) := ⟨rfl, rfl, rfl, by decide +kernel, rfl, by decide +kernel, by decide +kernel⟩
abbrev s__law_alike : Stmt := topS 11
abbrev N__law_alike : List Str := ["found", "due"]
theorem sc__law_alike : FnScope N__law_alike ["found", "due"] (defScope s__law_alike) := ⟨rfl, rfl, rfl, by decide +kernel, rfl, by decide +kernel, by decide +kernel⟩
abbrev s__law_names : Stmt := topS 12
abbrev N__law_names : List Str := ["bag", "many", "letters", "kind", "first", "found", "stem", "at", "turn"]
theorem sc__law_names : FnScope N__law_names ["bag", "many"] (defScope s__law_names) := ⟨rfl, rfl, rfl, by decide +kernel, rfl, by decide +kernel, by decide +kernel⟩
abbrev s__law_reduced : Stmt := topS 13
abbrev N__law_reduced : List Str := ["word", "found", "service"]
theorem sc__law_reduced : FnScope N__law_reduced ["word"] (defScope s__law_reduced) := ⟨rfl, rfl, rfl, by decide +kernel, rfl, by decide +kernel, by decide +kernel⟩
abbrev s__law_way : Stmt := topS 14
abbrev N__law_way : List Str := ["one", "other", "same", "back", "at"]
theorem sc__law_way : FnScope N__law_way ["one", "other"] (defScope s__law_way) := ⟨rfl, rfl, rfl, by decide +kernel, rfl, by decide +kernel, by decide +kernel⟩
abbrev s__law_any_word : Stmt := topS 15
abbrev N__law_any_word : List Str := ["bag", "fleet", "most", "found", "turn"]
theorem sc__law_any_word : FnScope N__law_any_word ["bag", "fleet", "most"] (defScope s__law_any_word) := ⟨rfl, rfl, rfl, by decide +kernel, rfl, by decide +kernel, by decide +kernel⟩
abbrev s__law_far : Stmt := topS 16
abbrev N__law_far : List Str := ["one", "other"]
theorem sc__law_far : FnScope N__law_far ["one", "other"] (defScope s__law_far) := ⟨rfl, rfl, rfl, by decide +kernel, rfl, by decide +kernel, by decide +kernel⟩
abbrev s__law_is_on_side : Stmt := topS 17
abbrev N__law_is_on_side : List Str := ["word", "edge", "end", "upper"]
theorem sc__law_is_on_side : FnScope N__law_is_on_side ["word", "edge", "end"] (defScope s__law_is_on_side) := ⟨rfl, rfl, rfl, by decide +kernel, rfl, by decide +kernel, by decide +kernel⟩
abbrev s__law_sides : Stmt := topS 18
abbrev N__law_sides : List Str := ["bag", "fleet", "one", "other", "found", "turn", "word", "some", "edge", "upper", "end", "name"]
theorem sc__law_sides : FnScope N__law_sides ["bag", "fleet", "one"] (defScope s__law_sides) := ⟨rfl, rfl, rfl, by decide +kernel, rfl, by decide +kernel, by decide +kernel⟩
abbrev s_law : Stmt := topS 19
abbrev N_law : List Str := ["script", "bag", "turn", "fleet", "stem", "three", "one", "other", "third", "middle", "first", "second", "mixed", "sides", "ends", "good", "least", "due", "said", "pairs", "some", "again", "edge", "end", "side"]
theorem sc_law : FnScope N_law ["script"] (defScope s_law) := ⟨rfl, rfl, rfl, by decide +kernel, rfl, by decide +kernel, by decide +kernel⟩
section
variable {P : Program} [ww : WW] {K : PySem.W.Frag} {mg : Str → Option Value} {base : Heap}
theorem ok_common_length {f : Addr} {fd : FuncData} (F : Fun K "common_length" "common_length" s_common_length f fd) (z_len : mg "len" = none) (z_min : mg "min" = none) : FnG P WW.w K mg base CX0 1 f fd ["one", "other"] (spP K C_common_length) := by
  refine NoI.keep (fun _ wNoI => ?_) ?_
  simp only [↓ NoI.wrOf wNoI (by
  clear wNoI
  refine okG F sc_common_length len_common_length fun cdv A outer s H E hG hr => ⟨t_common_length K, ?_, wp_common_length⟩
  exact (pss_cons (ps_set (i := 2) sc_common_length.nd rfl (by first | exact .inl rfl | exact .inr rfl) pe_int)
  (pss_cons (ps_while PassesOwn.never (PW.pt (pw_and (pt_cmpR op_lt (pv 2) (pe_callB (call_minU (by rfl)) (by rfl) z_min (by decide +kernel) (pa_cons (pe_callB call_len (by rfl) z_len (by decide +kernel) (pa_cons (pv 0) pa_nil)) (pa_cons (pe_callB call_len (by rfl) z_len (by decide +kernel) (pa_cons (pv 1) pa_nil)) pa_nil))) (nomark _)) (pw_and1 (pt_cmpR (op_eqU hr.units) (pe_ix (ix_U hr.units) (pv 0) (pv 2) (fun _ _ => rfl)) (pe_ix (ix_U hr.units) (pv 1) (pv 2) (fun _ _ => rfl)) (nomark _)))))
    (pss_one (ps_aug (i := 2) sc_common_length.nd rfl (by first | exact .inl rfl | exact .inr rfl) pe_int ip_add)))
  (pss_one (ps_ret (pv 2)))))
  )]
  intro _ hNoI
  simpa using (fun (_ : NoI.Sg) => hNoI) [5]
theorem ok_begins_with {f : Addr} {fd : FuncData} (F : Fun K "begins_with" "begins_with" s_begins_with f fd) (z_len : mg "len" = none) : FnG P WW.w K mg base CX0 1 f fd ["word", "beginning"] (spP K C_begins_with) := by
  refine NoI.keep (fun _ wNoI => ?_) ?_
  simp only [↓ NoI.wrOf wNoI (by
  clear wNoI
  refine okG F sc_begins_with len_begins_with fun cdv A outer s H E hG hr => ⟨t_begins_with K, ?_, wp_begins_with⟩
  exact (pss_one (ps_ret (pe_cmpR (op_eqU hr.units) (pe_slice sl_U (pv 0) po_none (po_some (pe_callB call_len (by rfl) z_len (by decide +kernel) (pa_cons (pv 1) pa_nil)))) (pv 1) (nomark _))))
  )]
  intro _ hNoI
  simpa using (fun (_ : NoI.Sg) => hNoI) [5]
theorem ok_longer_end {f : Addr} {fd : FuncData} (F : Fun K "longer_end" "longer_end" s_longer_end f fd) : FnG P WW.w K mg base CX0 1 f fd ["edge"] (spP K C_longer_end) := by
  refine NoI.keep (fun _ wNoI => ?_) ?_
  simp only [↓ NoI.wrOf wNoI (by
  clear wNoI
  refine okG F sc_longer_end len_longer_end fun cdv A outer s H E hG hr => ⟨t_longer_end K, ?_, wp_longer_end⟩
  exact (pss_cons (ps_asg (pv 0) (pg_tup (by rfl) (pgs_cons (pg_name (i := 1) sc_longer_end.nd rfl (by first | exact .inl rfl | exact .inr rfl)) (pgs_cons (pg_name (i := 2) sc_longer_end.nd rfl (by first | exact .inl rfl | exact .inr rfl)) pgs_nil))))
  (pss_one (ps_ret (pe_tupF (StX.pa_star (pv 1) (pa_cons (pv 2) pa_nil))))))
  )]
  intro _ hNoI
  simpa using (fun (_ : NoI.Sg) => hNoI) [5]
theorem ok_median_word {f : Addr} {fd : FuncData} (F : Fun K "median_word" "median_word" s_median_word f fd) (c_common_length : Cal P K mg base 1 "common_length" ["one", "other"] C_common_length) (z_len : mg "len" = none) (z_max : mg "max" = none) : FnG P WW.w K mg base CX0 2 f fd ["one", "other", "third"] (spP K C_median_word) := by
  refine NoI.keep (fun _ wNoI => ?_) ?_
  simp only [↓ NoI.wrOf wNoI (by
  clear wNoI
  refine okG F sc_median_word len_median_word fun cdv A outer s H E hG hr => ⟨t_median_word K, ?_, wp_median_word⟩
  exact (pss_cons (ps_set (i := 3) sc_median_word.nd rfl (by first | exact .inl rfl | exact .inr rfl) (pe_tupF (pa_cons (pe_tupF (pa_cons (pv 0) (pa_cons (pv 1) pa_nil))) (pa_cons (pe_tupF (pa_cons (pv 0) (pa_cons (pv 2) pa_nil))) (pa_cons (pe_tupF (pa_cons (pv 1) (pa_cons (pv 2) pa_nil))) pa_nil)))))
  (pss_one (ps_ret (pe_maxL (by rfl) (by rfl) z_max (by rfl) z_len (pa_cons (pe_lc (own := [("first", 4), ("second", 5)]) rfl sc_median_word.nd (pi_seq (pv 3)) (blkOk_by (own := [("first", 4), ("second", 5)]) (N := N_median_word) (sc := defScope s_median_word) (by decide +kernel)) (fun _ _ _ _ _ => (pg_tup (by rfl) (pgs_cons (pg_name (i := 4) sc_median_word.nd rfl (by first | exact .inl rfl | exact .inr rfl)) (pgs_cons (pg_name (i := 5) sc_median_word.nd rfl (by first | exact .inl rfl | exact .inr rfl)) pgs_nil)))) (fun _ _ _ _ _ => pts_nil) (fun _ _ _ _ _ => (pe_slice sl_U (pv 4) po_none (po_some (pe_callC c_common_length hG (hr.mono (by decide)) (by rfl) (pa_cons (pv 4) (pa_cons (pv 5) pa_nil))))))) pa_nil)))))
  )]
  intro _ hNoI
  simpa using (fun (_ : NoI.Sg) => hNoI) [5]
theorem ok_nearest {f : Addr} {fd : FuncData} (F : Fun K "nearest" "nearest" s_nearest f fd) (c_begins_with : Cal P K mg base 1 "begins_with" ["word", "beginning"] C_begins_with) (c_longer_end : Cal P K mg base 1 "longer_end" ["edge"] C_longer_end) (z_all : mg "all" = none) (z_any : mg "any" = none) (z_len : mg "len" = none) (z_max : mg "max" = none) (z_min : mg "min" = none) : FnG P WW.w K mg base CX0 2 f fd ["one", "sides"] (spP K C_nearest) := by
  refine NoI.keep (fun _ wNoI => ?_) ?_
  simp only [↓ NoI.wrOf wNoI (by
  clear wNoI
  refine okG F sc_nearest len_nearest fun cdv A outer s H E hG hr => ⟨t_nearest K, ?_, wp_nearest⟩
  exact (pss_cons (ps_setLc (i := 2) (own := [("edge", 6), ("word", 7)]) rfl sc_nearest.nd rfl rfl (sw_true rfl rfl rfl (by decide +kernel)) (pi_seq (pv 1)) (blkOk_by (own := [("edge", 6), ("word", 7)]) (N := N_nearest) (sc := defScope s_nearest) (by decide +kernel)) (fun _ _ _ _ _ => (pg_tup (by rfl) (pgs_cons (pg_name (i := 6) sc_nearest.nd rfl (by first | exact .inl rfl | exact .inr rfl)) (pgs_cons (pg_name (i := 7) sc_nearest.nd rfl (by first | exact .inl rfl | exact .inr rfl)) pgs_nil)))) (fun _ _ _ _ _ => (pts_one (pt_cmpR (op_eqU hr.units) (pv 7) (pe_callC c_longer_end hG (hr.mono (by decide)) (by rfl) (pa_cons (pv 6) pa_nil)) (nomark _)))) (fun _ _ _ _ _ => (pv 7)))
  (pss_cons (ps_setLc (i := 3) (own := [("edge", 6), ("word", 7)]) rfl sc_nearest.nd rfl rfl (sw_true rfl rfl rfl (by decide +kernel)) (pi_seq (pv 1)) (blkOk_by (own := [("edge", 6), ("word", 7)]) (N := N_nearest) (sc := defScope s_nearest) (by decide +kernel)) (fun _ _ _ _ _ => (pg_tup (by rfl) (pgs_cons (pg_name (i := 6) sc_nearest.nd rfl (by first | exact .inl rfl | exact .inr rfl)) (pgs_cons (pg_name (i := 7) sc_nearest.nd rfl (by first | exact .inl rfl | exact .inr rfl)) pgs_nil)))) (fun _ _ _ _ _ => (pts_one (pt_cmpR (op_eqU hr.units) (pv 7) (pe_ix (ix_U hr.units) (pv 6) pe_int (fun _ _ => rfl)) (nomark _)))) (fun _ _ _ _ _ => (pe_callC c_longer_end hG (hr.mono (by decide)) (by rfl) (pa_cons (pv 6) pa_nil))))
  (pss_cons (ps_set (i := 4) sc_nearest.nd rfl (by first | exact .inl rfl | exact .inr rfl) (pe_maxL (by rfl) (by rfl) z_max (by rfl) z_len (pa_cons (pe_lst (pa_cons (pe_tupF pa_nil) (StX.pa_star (pv 2) pa_nil))) pa_nil)))
  (pss_cons (ps_if (PW.pt (pw_or (pt_not (pt_tru (pe_callB (cr_all (by rfl)) (by rfl) z_all (by decide +kernel) (pa_cons (pe_lc (own := [("end", 8)]) rfl sc_nearest.nd (pi_seq (pv 2)) (blkOk_by (own := [("end", 8)]) (N := N_nearest) (sc := defScope s_nearest) (by decide +kernel)) (fun _ _ _ _ _ => (pg_name (i := 8) sc_nearest.nd rfl (by first | exact .inl rfl | exact .inr rfl))) (fun _ _ _ _ _ => pts_nil) (fun _ _ _ _ _ => (pe_callC c_begins_with hG (hr.mono (by decide)) (by rfl) (pa_cons (pv 4) (pa_cons (pv 8) pa_nil))))) pa_nil)))) (pw_or1 (pt_tru (pe_callB (cr_any (by rfl)) (by rfl) z_any (by decide +kernel) (pa_cons (pe_lc (own := [("end", 8)]) rfl sc_nearest.nd (pi_seq (pv 3)) (blkOk_by (own := [("end", 8)]) (N := N_nearest) (sc := defScope s_nearest) (by decide +kernel)) (fun _ _ _ _ _ => (pg_name (i := 8) sc_nearest.nd rfl (by first | exact .inl rfl | exact .inr rfl))) (fun _ _ _ _ _ => pts_nil) (fun _ _ _ _ _ => (pe_callC c_begins_with hG (hr.mono (by decide)) (by rfl) (pa_cons (pv 4) (pa_cons (pv 8) pa_nil))))) pa_nil))))))
    (pss_one (ps_ret pe_non))
    pss_nil)
  (pss_cons (ps_if (pt_not (pt_tru (pe_callC c_begins_with hG (hr.mono (by decide)) (by rfl) (pa_cons (pv 0) (pa_cons (pv 4) pa_nil)))))
    (pss_one (ps_ret (pv 4)))
    pss_nil)
  (pss_cons (ps_setLc (i := 5) (own := [("end", 8)]) rfl sc_nearest.nd rfl rfl (sw_true rfl rfl rfl (by decide +kernel)) (pi_seq (pv 3)) (blkOk_by (own := [("end", 8)]) (N := N_nearest) (sc := defScope s_nearest) (by decide +kernel)) (fun _ _ _ _ _ => (pg_name (i := 8) sc_nearest.nd rfl (by first | exact .inl rfl | exact .inr rfl))) (fun _ _ _ _ _ => (pts_one (pt_tru (pe_callC c_begins_with hG (hr.mono (by decide)) (by rfl) (pa_cons (pv 0) (pa_cons (pv 8) pa_nil)))))) (fun _ _ _ _ _ => (pv 8)))
  (pss_one (ps_ret (pe_ifExp (pt_tru (pv 5)) (pe_slice sl_U (pe_minL (by rfl) (by rfl) z_min (by rfl) z_len (pa_cons (pv 5) pa_nil)) po_none (po_some (pe_un un_neg pe_int))) (pv 0))))))))))
  )]
  intro _ hNoI
  simpa using (fun (_ : NoI.Sg) => hNoI) [5]
theorem ok__law_bag {f : Addr} {fd : FuncData} (F : Fun K "_law_bag" "_law_bag" s__law_bag f fd) (z_abs : mg "abs" = none) : FnG P WW.w K mg base CX0 1 f fd ["script"] (spP K C__law_bag) := by
  refine NoI.keep (fun _ wNoI => ?_) ?_
  simp only [↓ NoI.wrOf wNoI (by
  clear wNoI
  refine okG F sc__law_bag len__law_bag fun cdv A outer s H E hG hr => ⟨t__law_bag K, ?_, wp__law_bag⟩
  exact (pss_one (ps_ret (pe_lst (pa_cons pe_int (pa_cons pe_int (pa_cons pe_int (pa_cons (pe_lc (own := [("cell", 1)]) rfl sc__law_bag.nd (pi_seq (pe_slice sl_U (pv 0) po_none (po_some pe_int))) (blkOk_by (own := [("cell", 1)]) (N := N__law_bag) (sc := defScope s__law_bag) (by decide +kernel)) (fun _ _ _ _ _ => (pg_name (i := 1) sc__law_bag.nd rfl (by first | exact .inl rfl | exact .inr rfl))) (fun _ _ _ _ _ => pts_nil) (fun _ _ _ _ _ => (pe_callB call_abs (by rfl) z_abs (by decide +kernel) (pa_cons (pv 1) pa_nil)))) pa_nil)))))))
  )]
  intro _ hNoI
  simpa using (fun (_ : NoI.Sg) => hNoI) [5]
theorem ok__law_take {f : Addr} {fd : FuncData} (F : Fun K "_law_take" "_law_take" s__law_take f fd) (z_int : mg "int" = none) : FnG P WW.w K mg base CX0 1 f fd ["bag", "many"] (spP K C__law_take) := by
  refine NoI.keep (fun _ wNoI => ?_) ?_
  simp only [↓ NoI.wrOf wNoI (by
  clear wNoI
  refine okG F sc__law_take len__law_take fun cdv A outer s H E hG hr => ⟨t__law_take K, ?_, wp__law_take⟩
  exact (pss_cons (ps_if (pt_cmpR (op_eqU hr.units) (pe_ix (ix_U hr.units) (pv 0) pe_int (fun _ _ => rfl)) pe_int (nomark _))
    (pss_cons (ps_set (i := 2) sc__law_take.nd rfl (by first | exact .inl rfl | exact .inr rfl) (pe_ix (ix_U hr.units) (pe_op op_addU (pe_slice sl_U (pe_ix (ix_U hr.units) (pv 0) pe_int (fun _ _ => rfl)) (po_some (pe_ix (ix_U hr.units) (pv 0) pe_int (fun _ _ => rfl))) po_none) (pe_lst (pa_cons pe_int pa_nil))) pe_int (fun _ _ => rfl)))
  (pss_cons (ps_augS (pv 0) pe_int pget_list pe_int ip_add set_list)
  (pss_cons (ps_if (pt_cmpR op_ge (pv 2) (pe_op op_pow pe_int pe_int) (nomark _))
    (pss_one (ps_asg (pv 2) (pg_sub (pv 0) pe_int set_list)))
    pss_nil)
  (pss_cons (ps_set (i := 3) sc__law_take.nd rfl (by first | exact .inl rfl | exact .inr rfl) (pe_op op_addU (pe_op op_addU (pe_op op_mulX (pe_ix (ix_U hr.units) (pv 0) pe_int (fun _ _ => rfl)) pe_int) (pe_op op_modN (pe_callTy call_int1 (by rfl) z_int (by decide +kernel) (pa_cons (pv 2) pa_nil)) pe_int)) (pe_op op_mulX pe_int (pe_ix (ix_U hr.units) (pv 0) pe_int (fun _ _ => rfl)))))
  (pss_one (ps_asg (pe_op op_modN (pe_callTy call_int1 (by rfl) z_int (by decide +kernel) (pa_cons (pv 3) pa_nil)) pe_int) (pg_sub (pv 0) pe_int set_list)))))))
    pss_nil)
  (pss_cons (ps_if (pt_cmpR op_gt (pe_ix (ix_U hr.units) (pv 0) pe_int (fun _ _ => rfl)) pe_int (nomark _))
    (pss_cons (ps_set (i := 4) sc__law_take.nd rfl (by first | exact .inl rfl | exact .inr rfl) (pe_op op_modN (pe_callTy call_int1 (by rfl) z_int (by decide +kernel) (pa_cons (pe_ix (ix_U hr.units) (pv 0) pe_int (fun _ _ => rfl)) pa_nil)) (pv 1)))
  (pss_cons (ps_asg (pe_op op_fdivW (pe_callTy call_int1 (by rfl) z_int (by decide +kernel) (pa_cons (pe_ix (ix_U hr.units) (pv 0) pe_int (fun _ _ => rfl)) pa_nil)) (pv 1)) (pg_sub (pv 0) pe_int set_list))
  (pss_one (ps_ret (pv 4)))))
    pss_nil)
  (pss_cons (ps_set (i := 5) sc__law_take.nd rfl (by first | exact .inl rfl | exact .inr rfl) (pe_op op_modN (pe_callTy call_int1 (by rfl) z_int (by decide +kernel) (pa_cons (pe_op op_mulX (pe_op op_addU (pe_ix (ix_U hr.units) (pv 0) pe_int (fun _ _ => rfl)) pe_int) pe_int) pa_nil)) pe_int))
  (pss_cons (ps_set (i := 6) sc__law_take.nd rfl (by first | exact .inl rfl | exact .inr rfl) (pe_op op_modN (pe_callTy call_int1 (by rfl) z_int (by decide +kernel) (pa_cons (pe_op op_mulX (pe_op op_modN (pe_callTy call_int1 (by rfl) z_int (by decide +kernel) (pa_cons (pe_op op_mulX (pv 5) (pv 5)) pa_nil)) pe_int) pe_int) pa_nil)) pe_int))
  (pss_one (ps_ret (pe_op op_modN (pe_callTy call_int1 (by rfl) z_int (by decide +kernel) (pa_cons (pe_op op_fdivW (pv 6) pe_int) pa_nil)) (pv 1))))))))
  )]
  intro _ hNoI
  simpa using (fun (_ : NoI.Sg) => hNoI) [5]
theorem ok__law_some {f : Addr} {fd : FuncData} (F : Fun K "_law_some" "_law_some" s__law_some f fd) (c__law_take : Cal P K mg base 1 "_law_take" ["bag", "many"] C__law_take) (z_len : mg "len" = none) : FnG P WW.w K mg base CX0 2 f fd ["bag", "things"] (spP K C__law_some) := by
  refine NoI.keep (fun _ wNoI => ?_) ?_
  simp only [↓ NoI.wrOf wNoI (by
  clear wNoI
  refine okG F sc__law_some len__law_some fun cdv A outer s H E hG hr => ⟨t__law_some K, ?_, wp__law_some⟩
  exact (pss_one (ps_ret (pe_ix (ix_U hr.units) (pv 1) (pe_callC c__law_take hG (hr.mono (by decide)) (by rfl) (pa_cons (pv 0) (pa_cons (pe_callB call_len (by rfl) z_len (by decide +kernel) (pa_cons (pv 1) pa_nil)) pa_nil))) (fun _ _ => rfl))))
  )]
  intro _ hNoI
  simpa using (fun (_ : NoI.Sg) => hNoI) [5]
theorem ok__law_mixed {f : Addr} {fd : FuncData} (F : Fun K "_law_mixed" "_law_mixed" s__law_mixed f fd) (c__law_take : Cal P K mg base 1 "_law_take" ["bag", "many"] C__law_take) (z_len : mg "len" = none) : FnG P WW.w K mg base CX0 2 f fd ["bag", "things"] (spP K C__law_mixed) := by
  refine NoI.keep (fun _ wNoI => ?_) ?_
  simp only [↓ NoI.wrOf wNoI (by
  clear wNoI
  refine okG F sc__law_mixed len__law_mixed fun cdv A outer s H E hG hr => ⟨t__law_mixed K, ?_, wp__law_mixed⟩
  exact (pss_cons (ps_set (i := 2) sc__law_mixed.nd rfl (by first | exact .inl rfl | exact .inr rfl) (pe_lst pa_nil))
  (pss_cons (ps_for PassesOwn.never rfl (pi_seq (pv 1)) (pg_name (i := 3) sc__law_mixed.nd rfl (by first | exact .inl rfl | exact .inr rfl))
    (pss_one (ps_expr (pe_bm PySem.F.plainAttrs_list PySem.F.slot_list_insert PySem.F.type_list_insert mt_insert (pv 2) (pa_cons (pe_callC c__law_take hG (hr.mono (by decide)) (by rfl) (pa_cons (pv 0) (pa_cons (pe_op op_addU (pe_callB call_len (by rfl) z_len (by decide +kernel) (pa_cons (pv 2) pa_nil)) pe_int) pa_nil))) (pa_cons (pv 3) pa_nil))))))
  (pss_one (ps_ret (pv 2)))))
  )]
  intro _ hNoI
  simpa using (fun (_ : NoI.Sg) => hNoI) [5]
theorem ok__law_alike {f : Addr} {fd : FuncData} (F : Fun K "_law_alike" "_law_alike" s__law_alike f fd) (z_repr : mg "repr" = none) : FnG P WW.w K mg base CX0 1 f fd ["found", "due"] (spP K C__law_alike) := by
  refine NoI.keep (fun _ wNoI => ?_) ?_
  simp only [↓ NoI.wrOf wNoI (by
  clear wNoI
  refine okG F sc__law_alike len__law_alike fun cdv A outer s H E hG hr => ⟨t__law_alike K, ?_, wp__law_alike⟩
  exact (pss_one (ps_ret (pe_and (pe_cmpR (op_eqU hr.units) (pv 0) (pv 1) (nomark _)) (pe_one (pe_cmpR (op_eqU hr.units) (pe_callB (call_reprW hG hr) (by rfl) z_repr (by decide +kernel) (pa_cons (pv 0) pa_nil)) (pe_callB (call_reprW hG hr) (by rfl) z_repr (by decide +kernel) (pa_cons (pv 1) pa_nil)) (nomark _))))))
  )]
  intro _ hNoI
  simpa using (fun (_ : NoI.Sg) => hNoI) [5]
theorem ok__law_names {f : Addr} {fd : FuncData} (F : Fun K "_law_names" "_law_names" s__law_names f fd) (c__law_take : Cal P K mg base 1 "_law_take" ["bag", "many"] C__law_take) (c__law_some : Cal P K mg base 2 "_law_some" ["bag", "things"] C__law_some) (c__law_mixed : Cal P K mg base 2 "_law_mixed" ["bag", "things"] C__law_mixed) (z_int : mg "int" = none) (z_range : mg "range" = none) : FnG P WW.w K mg base CX0 3 f fd ["bag", "many"] (spP K C__law_names) := by
  refine NoI.keep (fun _ wNoI => ?_) ?_
  simp only [↓ NoI.wrOf wNoI (by
  clear wNoI
  refine okG F sc__law_names len__law_names fun cdv A outer s H E hG hr => ⟨t__law_names K, ?_, wp__law_names⟩
  exact (pss_cons (ps_asg (pe_tupF (pa_cons pe_str (pa_cons (pe_callC c__law_take hG (hr.mono (by decide)) (by rfl) (pa_cons (pv 0) (pa_cons pe_int pa_nil))) (pa_cons (pe_callC c__law_take hG (hr.mono (by decide)) (by rfl) (pa_cons (pv 0) (pa_cons pe_int pa_nil))) pa_nil)))) (pg_tup (by rfl) (pgs_cons (pg_name (i := 2) sc__law_names.nd rfl (by first | exact .inl rfl | exact .inr rfl)) (pgs_cons (pg_name (i := 3) sc__law_names.nd rfl (by first | exact .inl rfl | exact .inr rfl)) (pgs_cons (pg_name (i := 4) sc__law_names.nd rfl (by first | exact .inl rfl | exact .inr rfl)) pgs_nil)))))
  (pss_cons (ps_if (pt_cmpR (op_eqU hr.units) (pv 3) pe_int (nomark _))
    (pss_one (ps_setLc (i := 5) (own := [("at", 7)]) rfl sc__law_names.nd rfl rfl (sw_true rfl rfl rfl (by decide +kernel)) (pi_range1 (by rfl) z_range (pa_cons (pv 1) pa_nil)) (blkOk_by (own := [("at", 7)]) (N := N__law_names) (sc := defScope s__law_names) (by decide +kernel)) (fun _ _ _ _ _ => (pg_name (i := 7) sc__law_names.nd rfl (by first | exact .inl rfl | exact .inr rfl))) (fun _ _ _ _ _ => pts_nil) (fun _ _ _ _ _ => (pe_ix (ix_U hr.units) (pv 2) (pe_op op_modN (pe_callTy call_int1 (by rfl) z_int (by decide +kernel) (pa_cons (pe_op op_addU (pv 4) (pv 7)) pa_nil)) pe_int) (fun _ _ => rfl)))))
    (pss_one (ps_if (pt_cmpR (op_eqU hr.units) (pv 3) pe_int (nomark _))
    (pss_one (ps_setLc (i := 5) (own := [("at", 7)]) rfl sc__law_names.nd rfl rfl (sw_true rfl rfl rfl (by decide +kernel)) (pi_range1 (by rfl) z_range (pa_cons (pv 1) pa_nil)) (blkOk_by (own := [("at", 7)]) (N := N__law_names) (sc := defScope s__law_names) (by decide +kernel)) (fun _ _ _ _ _ => (pg_name (i := 7) sc__law_names.nd rfl (by first | exact .inl rfl | exact .inr rfl))) (fun _ _ _ _ _ => pts_nil) (fun _ _ _ _ _ => (pe_op op_mulX (pe_ix (ix_U hr.units) (pv 2) (pv 4) (fun _ _ => rfl)) (pe_op op_addU (pv 7) pe_int)))))
    (pss_one (ps_if (pt_cmpR (op_eqU hr.units) (pv 3) pe_int (nomark _))
    (pss_cons (ps_set (i := 6) sc__law_names.nd rfl (by first | exact .inl rfl | exact .inr rfl) (pe_join pe_str (pe_lc (own := [("turn", 8)]) rfl sc__law_names.nd (pi_range1 (by rfl) z_range (pa_cons (pe_callC c__law_take hG (hr.mono (by decide)) (by rfl) (pa_cons (pv 0) (pa_cons pe_int pa_nil))) pa_nil)) (blkOk_by (own := [("turn", 8)]) (N := N__law_names) (sc := defScope s__law_names) (by decide +kernel)) (fun _ _ _ _ _ => (pg_name (i := 8) sc__law_names.nd rfl (by first | exact .inl rfl | exact .inr rfl))) (fun _ _ _ _ _ => pts_nil) (fun _ _ _ _ _ => (pe_callC c__law_some hG (hr.mono (by decide)) (by rfl) (pa_cons (pv 0) (pa_cons (pv 2) pa_nil)))))))
  (pss_one (ps_setLc (i := 5) (own := [("at", 7)]) rfl sc__law_names.nd rfl rfl (sw_true rfl rfl rfl (by decide +kernel)) (pi_range1 (by rfl) z_range (pa_cons (pv 1) pa_nil)) (blkOk_by (own := [("at", 7)]) (N := N__law_names) (sc := defScope s__law_names) (by decide +kernel)) (fun _ _ _ _ _ => (pg_name (i := 7) sc__law_names.nd rfl (by first | exact .inl rfl | exact .inr rfl))) (fun _ _ _ _ _ => pts_nil) (fun _ _ _ _ _ => (pe_op op_addU (pv 6) (pe_ix (ix_U hr.units) (pv 2) (pe_op op_modN (pe_callTy call_int1 (by rfl) z_int (by decide +kernel) (pa_cons (pe_op op_addU (pv 4) (pv 7)) pa_nil)) pe_int) (fun _ _ => rfl)))))))
    (pss_one (ps_if (pt_cmpR (op_eqU hr.units) (pv 3) pe_int (nomark _))
    (pss_one (ps_set (i := 5) sc__law_names.nd rfl (by first | exact .inl rfl | exact .inr rfl) (pe_slice sl_U (pe_callC c__law_mixed hG (hr.mono (by decide)) (by rfl) (pa_cons (pv 0) (pa_cons (pe_lst (pa_cons pe_str (pa_cons pe_str (pa_cons pe_str (pa_cons pe_str (pa_cons pe_str (pa_cons pe_str (pa_cons pe_str (pa_cons pe_str (pa_cons pe_str pa_nil)))))))))) pa_nil))) po_none (po_some (pv 1)))))
    (pss_one (ps_setLc (i := 5) (own := [("at", 7)]) rfl sc__law_names.nd rfl rfl (sw_true rfl rfl rfl (by decide +kernel)) (pi_range1 (by rfl) z_range (pa_cons (pv 1) pa_nil)) (blkOk_by (own := [("at", 7)]) (N := N__law_names) (sc := defScope s__law_names) (by decide +kernel)) (fun _ _ _ _ _ => (pg_name (i := 7) sc__law_names.nd rfl (by first | exact .inl rfl | exact .inr rfl))) (fun _ _ _ _ _ => pts_nil) (fun _ _ _ _ _ => (pe_op op_addU (pe_ix (ix_U hr.units) (pv 2) (pe_op op_modN (pe_callTy call_int1 (by rfl) z_int (by decide +kernel) (pa_cons (pe_op op_addU (pv 4) (pv 7)) pa_nil)) pe_int) (fun _ _ => rfl)) (pe_callC c__law_some hG (hr.mono (by decide)) (by rfl) (pa_cons (pv 0) (pa_cons (pe_lst (pa_cons pe_str (pa_cons pe_str (pa_cons pe_str (pa_cons (pe_slice sl_U (pv 2) po_none (po_some pe_int)) pa_nil))))) pa_nil))))))))))))))
  (pss_one (ps_ret (pe_callC c__law_mixed hG (hr.mono (by decide)) (by rfl) (pa_cons (pv 0) (pa_cons (pv 5) pa_nil)))))))
  )]
  intro _ hNoI
  simpa using (fun (_ : NoI.Sg) => hNoI) [5]
theorem ok__law_reduced {f : Addr} {fd : FuncData} (F : Fun K "_law_reduced" "_law_reduced" s__law_reduced f fd) (z_tuple : mg "tuple" = none) : FnG P WW.w K mg base CX0 1 f fd ["word"] (spP K C__law_reduced) := by
  refine NoI.keep (fun _ wNoI => ?_) ?_
  simp only [↓ NoI.wrOf wNoI (by
  clear wNoI
  refine okG F sc__law_reduced len__law_reduced fun cdv A outer s H E hG hr => ⟨t__law_reduced K, ?_, wp__law_reduced⟩
  exact (pss_cons (ps_set (i := 1) sc__law_reduced.nd rfl (by first | exact .inl rfl | exact .inr rfl) (pe_lst pa_nil))
  (pss_cons (ps_for PassesOwn.never rfl (pi_seq (pv 0)) (pg_name (i := 2) sc__law_reduced.nd rfl (by first | exact .inl rfl | exact .inr rfl))
    (pss_one (ps_if (PW.pt (pw_and (pt_cmpR (op_neU hr.units) (pv 1) (pe_lst pa_nil) (nomark _)) (pw_and1 (pt_cmpR (op_eqU hr.units) (pe_ix (ix_U hr.units) (pv 1) (pe_un un_neg pe_int) (fun _ _ => rfl)) (pv 2) (nomark _)))))
    (pss_one (ps_expr (pe_bm0 PySem.F.plainAttrs_list PySem.F.slot_list_pop PySem.F.type_list_pop mt_pop (pv 1))))
    (pss_one (ps_expr (pe_bm PySem.F.plainAttrs_list PySem.F.slot_list_append PySem.F.type_list_append mt_append (pv 1) (pa_cons (pv 2) pa_nil)))))))
  (pss_one (ps_ret (pe_callTy call_tupF (by rfl) z_tuple (by decide +kernel) (pa_cons (pv 1) pa_nil))))))
  )]
  intro _ hNoI
  simpa using (fun (_ : NoI.Sg) => hNoI) [5]
theorem ok__law_way {f : Addr} {fd : FuncData} (F : Fun K "_law_way" "_law_way" s__law_way f fd) (z_len : mg "len" = none) (z_min : mg "min" = none) (z_range : mg "range" = none) : FnG P WW.w K mg base CX0 1 f fd ["one", "other"] (spP K C__law_way) := by
  refine NoI.keep (fun _ wNoI => ?_) ?_
  simp only [↓ NoI.wrOf wNoI (by
  clear wNoI
  refine okG F sc__law_way len__law_way fun cdv A outer s H E hG hr => ⟨t__law_way K, ?_, wp__law_way⟩
  exact (pss_cons (ps_set (i := 2) sc__law_way.nd rfl (by first | exact .inl rfl | exact .inr rfl) pe_int)
  (pss_cons (ps_while PassesOwn.never (PW.pt (pw_and (pt_cmpR op_lt (pv 2) (pe_callB (call_minU (by rfl)) (by rfl) z_min (by decide +kernel) (pa_cons (pe_callB call_len (by rfl) z_len (by decide +kernel) (pa_cons (pv 0) pa_nil)) (pa_cons (pe_callB call_len (by rfl) z_len (by decide +kernel) (pa_cons (pv 1) pa_nil)) pa_nil))) (nomark _)) (pw_and1 (pt_cmpR (op_eqU hr.units) (pe_ix (ix_U hr.units) (pv 0) (pv 2) (fun _ _ => rfl)) (pe_ix (ix_U hr.units) (pv 1) (pv 2) (fun _ _ => rfl)) (nomark _)))))
    (pss_one (ps_aug (i := 2) sc__law_way.nd rfl (by first | exact .inl rfl | exact .inr rfl) pe_int ip_add)))
  (pss_cons (ps_setLc (i := 3) (own := [("at", 4)]) rfl sc__law_way.nd rfl rfl (sw_true rfl rfl rfl (by decide +kernel)) (pi_range3 (by rfl) z_range (pa_cons (pe_op op_sub (pe_callB call_len (by rfl) z_len (by decide +kernel) (pa_cons (pv 0) pa_nil)) pe_int) (pa_cons (pe_op op_sub (pv 2) pe_int) (pa_cons (pe_un un_neg pe_int) pa_nil)))) (blkOk_by (own := [("at", 4)]) (N := N__law_way) (sc := defScope s__law_way) (by decide +kernel)) (fun _ _ _ _ _ => (pg_name (i := 4) sc__law_way.nd rfl (by first | exact .inl rfl | exact .inr rfl))) (fun _ _ _ _ _ => pts_nil) (fun _ _ _ _ _ => (pe_tupF (pa_cons (pe_slice sl_U (pv 0) po_none (po_some (pv 4))) (pa_cons (pe_ix (ix_U hr.units) (pv 0) (pv 4) (fun _ _ => rfl)) pa_nil)))))
  (pss_one (ps_ret (pe_op op_addU (pv 3) (pe_lc (own := [("at", 4)]) rfl sc__law_way.nd (pi_range2 (by rfl) z_range (pa_cons (pv 2) (pa_cons (pe_callB call_len (by rfl) z_len (by decide +kernel) (pa_cons (pv 1) pa_nil)) pa_nil))) (blkOk_by (own := [("at", 4)]) (N := N__law_way) (sc := defScope s__law_way) (by decide +kernel)) (fun _ _ _ _ _ => (pg_name (i := 4) sc__law_way.nd rfl (by first | exact .inl rfl | exact .inr rfl))) (fun _ _ _ _ _ => pts_nil) (fun _ _ _ _ _ => (pe_tupF (pa_cons (pe_slice sl_U (pv 1) po_none (po_some (pv 4))) (pa_cons (pe_ix (ix_U hr.units) (pv 1) (pv 4) (fun _ _ => rfl)) pa_nil)))))))))))
  )]
  intro _ hNoI
  simpa using (fun (_ : NoI.Sg) => hNoI) [5]
theorem ok__law_any_word {f : Addr} {fd : FuncData} (F : Fun K "_law_any_word" "_law_any_word" s__law_any_word f fd) (c__law_take : Cal P K mg base 1 "_law_take" ["bag", "many"] C__law_take) (c__law_some : Cal P K mg base 2 "_law_some" ["bag", "things"] C__law_some) (z_range : mg "range" = none) (z_tuple : mg "tuple" = none) : FnG P WW.w K mg base CX0 3 f fd ["bag", "fleet", "most"] (spP K C__law_any_wordN) := by
  refine NoI.keep (fun _ wNoI => ?_) ?_
  simp only [↓ NoI.wrOf wNoI (by
  clear wNoI
  refine okG F sc__law_any_word len__law_any_word fun cdv A outer s H E hG hr => ⟨t__law_any_wordN K, ?_, wp__law_any_wordN⟩
  exact (pss_cons (ps_set (i := 3) sc__law_any_word.nd rfl (by first | exact .inl rfl | exact .inr rfl) (pe_lst pa_nil))
  (pss_cons (ps_for PassesOwn.never rfl (pi_range1 (by rfl) z_range (pa_cons (pe_callC c__law_take hG (hr.mono (by decide)) (by rfl) (pa_cons (pv 0) (pa_cons (pe_op op_addU (pv 2) pe_int) pa_nil))) pa_nil)) (pg_name (i := 4) sc__law_any_word.nd rfl (by first | exact .inl rfl | exact .inr rfl))
    (pss_one (ps_expr (pe_bm PySem.F.plainAttrs_list PySem.F.slot_list_append PySem.F.type_list_append mt_append (pv 3) (pa_cons (pe_ifExp (PW.pt (pw_and (pt_cmpR (op_neU hr.units) (pv 3) (pe_lst pa_nil) (nomark _)) (pw_and1 (pt_cmpR (op_eqU hr.units) (pe_callC c__law_take hG (hr.mono (by decide)) (by rfl) (pa_cons (pv 0) (pa_cons pe_int pa_nil))) pe_int (nomark _))))) (pe_ix (ix_U hr.units) (pv 3) (pe_un un_neg pe_int) (fun _ _ => rfl)) (pe_callC c__law_some hG (hr.mono (by decide)) (by rfl) (pa_cons (pv 0) (pa_cons (pe_ix (ix_U hr.units) (pv 1) pe_int (fun _ _ => rfl)) pa_nil)))) pa_nil)))))
  (pss_one (ps_ret (pe_callTy call_tupF (by rfl) z_tuple (by decide +kernel) (pa_cons (pv 3) pa_nil))))))
  )]
  intro _ hNoI
  simpa using (fun (_ : NoI.Sg) => hNoI) [5]
theorem ok__law_far {f : Addr} {fd : FuncData} (F : Fun K "_law_far" "_law_far" s__law_far f fd) (c__law_way : Cal P K mg base 1 "_law_way" ["one", "other"] C__law_way) (z_len : mg "len" = none) : FnG P WW.w K mg base CX0 2 f fd ["one", "other"] (spP K C__law_far) := by
  refine NoI.keep (fun _ wNoI => ?_) ?_
  simp only [↓ NoI.wrOf wNoI (by
  clear wNoI
  refine okG F sc__law_far len__law_far fun cdv A outer s H E hG hr => ⟨t__law_far K, ?_, wp__law_far⟩
  exact (pss_one (ps_ret (pe_callB call_len (by rfl) z_len (by decide +kernel) (pa_cons (pe_callC c__law_way hG (hr.mono (by decide)) (by rfl) (pa_cons (pv 0) (pa_cons (pv 1) pa_nil))) pa_nil))))
  )]
  intro _ hNoI
  simpa using (fun (_ : NoI.Sg) => hNoI) [5]
theorem ok__law_is_on_side {f : Addr} {fd : FuncData} (F : Fun K "_law_is_on_side" "_law_is_on_side" s__law_is_on_side f fd) (z_len : mg "len" = none) : FnG P WW.w K mg base CX0 1 f fd ["word", "edge", "end"] (spP K C__law_is_on_side) := by
  refine NoI.keep (fun _ wNoI => ?_) ?_
  simp only [↓ NoI.wrOf wNoI (by
  clear wNoI
  refine okG F sc__law_is_on_side len__law_is_on_side fun cdv A outer s H E hG hr => ⟨t__law_is_on_side K, ?_, wp__law_is_on_side⟩
  exact (pss_cons (ps_set (i := 3) sc__law_is_on_side.nd rfl (by first | exact .inl rfl | exact .inr rfl) (pe_op op_addU (pe_ix (ix_U hr.units) (pv 1) pe_int (fun _ _ => rfl)) (pe_tupF (pa_cons (pe_ix (ix_U hr.units) (pv 1) pe_int (fun _ _ => rfl)) pa_nil))))
  (pss_one (ps_ret (pe_cmpR (op_eqU hr.units) (pe_cmpR (op_eqU hr.units) (pe_slice sl_U (pv 0) po_none (po_some (pe_callB call_len (by rfl) z_len (by decide +kernel) (pa_cons (pv 3) pa_nil)))) (pv 3) (nomark _)) (pe_cmpR (op_eqU hr.units) (pv 2) (pv 3) (nomark _)) (nomark _)))))
  )]
  intro _ hNoI
  simpa using (fun (_ : NoI.Sg) => hNoI) [5]
theorem ok__law_sides {f : Addr} {fd : FuncData} (F : Fun K "_law_sides" "_law_sides" s__law_sides f fd) (c__law_take : Cal P K mg base 1 "_law_take" ["bag", "many"] C__law_take) (c__law_some : Cal P K mg base 2 "_law_some" ["bag", "things"] C__law_some) (c__law_reduced : Cal P K mg base 1 "_law_reduced" ["word"] C__law_reduced) (c__law_any_word : Cal P K mg base 3 "_law_any_word" ["bag", "fleet", "most"] C__law_any_wordN) (z_len : mg "len" = none) (z_range : mg "range" = none) : FnG P WW.w K mg base CX0 4 f fd ["bag", "fleet", "one"] (spP K C__law_sides) := by
  refine NoI.keep (fun _ wNoI => ?_) ?_
  simp only [↓ NoI.wrOf wNoI (by
  clear wNoI
  refine okG F sc__law_sides len__law_sides fun cdv A outer s H E hG hr => ⟨t__law_sides K, ?_, wp__law_sides⟩
  exact (pss_cons (ps_par (i := 3) (j := 4) (by rfl) sc__law_sides.nd rfl rfl (by decide) rfl rfl (pa_cons (pe_callC c__law_reduced hG (hr.mono (by decide)) (by rfl) (pa_cons (pe_op op_addU (pe_slice sl_U (pv 2) po_none (po_some (pe_callC c__law_take hG (hr.mono (by decide)) (by rfl) (pa_cons (pv 0) (pa_cons (pe_op op_addU (pe_callB call_len (by rfl) z_len (by decide +kernel) (pa_cons (pv 2) pa_nil)) pe_int) pa_nil))))) (pe_callC c__law_any_word hG (hr.mono (by decide)) (by rfl) (pa_cons (pv 0) (pa_cons (pv 1) (pa_cons pe_int pa_nil))))) pa_nil)) (pa_cons (pe_lst pa_nil) pa_nil)) (by rfl))
  (pss_cons (ps_for PassesOwn.never rfl (pi_range1 (by rfl) z_range (pa_cons (pe_callC c__law_some hG (hr.mono (by decide)) (by rfl) (pa_cons (pv 0) (pa_cons (pe_lst (pa_cons pe_int (pa_cons pe_int (pa_cons pe_int (pa_cons pe_int (pa_cons pe_int pa_nil)))))) pa_nil))) pa_nil)) (pg_name (i := 5) sc__law_sides.nd rfl (by first | exact .inl rfl | exact .inr rfl))
    (pss_cons (ps_set (i := 6) sc__law_sides.nd rfl (by first | exact .inl rfl | exact .inr rfl) (pe_callC c__law_some hG (hr.mono (by decide)) (by rfl) (pa_cons (pv 0) (pa_cons (pe_lst (pa_cons (pv 3) (pa_cons (pv 2) (pa_cons (pv 3) pa_nil)))) pa_nil))))
  (pss_cons (ps_set (i := 6) sc__law_sides.nd rfl (by first | exact .inl rfl | exact .inr rfl) (pe_slice sl_U (pv 6) po_none (po_some (pe_callC c__law_take hG (hr.mono (by decide)) (by rfl) (pa_cons (pv 0) (pa_cons (pe_op op_addU (pe_callB call_len (by rfl) z_len (by decide +kernel) (pa_cons (pv 6) pa_nil)) pe_int) pa_nil))))))
  (pss_cons (ps_setLc (i := 7) (own := [("name", 11)]) rfl sc__law_sides.nd rfl rfl (sw_true rfl rfl rfl (by decide +kernel)) (pi_seq (pe_ix (ix_U hr.units) (pv 1) pe_int (fun _ _ => rfl))) (blkOk_by (own := [("name", 11)]) (N := N__law_sides) (sc := defScope s__law_sides) (by decide +kernel)) (fun _ _ _ _ _ => (pg_name (i := 11) sc__law_sides.nd rfl (by first | exact .inl rfl | exact .inr rfl))) (fun _ _ _ _ _ => (pts_one (pt_cmpR (op_neU hr.units) (pe_slice sl_U (pv 6) (po_some (pe_un un_neg pe_int)) po_none) (pe_tupF (pa_cons (pv 11) pa_nil)) (nomark _)))) (fun _ _ _ _ _ => (pv 11)))
  (pss_one (ps_if (pt_cmpR (op_neU hr.units) (pv 7) (pe_lst pa_nil) (nomark _))
    (pss_cons (ps_set (i := 8) sc__law_sides.nd rfl (by first | exact .inl rfl | exact .inr rfl) (pe_tupF (pa_cons (pv 6) (pa_cons (pe_callC c__law_some hG (hr.mono (by decide)) (by rfl) (pa_cons (pv 0) (pa_cons (pv 7) pa_nil))) pa_nil))))
  (pss_cons (ps_set (i := 9) sc__law_sides.nd rfl (by first | exact .inl rfl | exact .inr rfl) (pe_op op_addU (pv 6) (pe_tupF (pa_cons (pe_ix (ix_U hr.units) (pv 8) pe_int (fun _ _ => rfl)) pa_nil))))
  (pss_cons (ps_set (i := 10) sc__law_sides.nd rfl (by first | exact .inl rfl | exact .inr rfl) (pe_ifExp (pt_cmpR (op_eqU hr.units) (pe_slice sl_U (pv 3) po_none (po_some (pe_callB call_len (by rfl) z_len (by decide +kernel) (pa_cons (pv 9) pa_nil)))) (pv 9) (nomark _)) (pv 9) (pv 6)))
  (pss_cons (ps_set (i := 10) sc__law_sides.nd rfl (by first | exact .inl rfl | exact .inr rfl) (pe_ifExp (pt_cmpR (op_eqU hr.units) (pe_callC c__law_take hG (hr.mono (by decide)) (by rfl) (pa_cons (pv 0) (pa_cons pe_int pa_nil))) pe_int (nomark _)) (pe_callC c__law_some hG (hr.mono (by decide)) (by rfl) (pa_cons (pv 0) (pa_cons (pe_lst (pa_cons (pv 6) (pa_cons (pv 9) pa_nil))) pa_nil))) (pv 10)))
  (pss_one (ps_expr (pe_bm PySem.F.plainAttrs_list PySem.F.slot_list_append PySem.F.type_list_append mt_append (pv 4) (pa_cons (pe_tupF (pa_cons (pv 8) (pa_cons (pv 10) pa_nil))) pa_nil))))))))
    pss_nil))))))
  (pss_one (ps_ret (pv 4)))))
  )]
  intro _ hNoI
  simpa using (fun (_ : NoI.Sg) => hNoI) [5]
theorem ok_law {f : Addr} {fd : FuncData} (F : Fun K "law" "law" s_law f fd) (c_median_word : Cal P K mg base 2 "median_word" ["one", "other", "third"] C_median_word) (c_nearest : Cal P K mg base 2 "nearest" ["one", "sides"] C_nearest) (c__law_bag : Cal P K mg base 1 "_law_bag" ["script"] C__law_bag) (c__law_take : Cal P K mg base 1 "_law_take" ["bag", "many"] C__law_take) (c__law_some : Cal P K mg base 2 "_law_some" ["bag", "things"] C__law_some) (c__law_mixed : Cal P K mg base 2 "_law_mixed" ["bag", "things"] C__law_mixed) (c__law_alike : Cal P K mg base 1 "_law_alike" ["found", "due"] C__law_alike) (c__law_names : Cal P K mg base 3 "_law_names" ["bag", "many"] C__law_names) (c__law_reduced : Cal P K mg base 1 "_law_reduced" ["word"] C__law_reduced) (c__law_any_word : Cal P K mg base 3 "_law_any_word" ["bag", "fleet", "most"] C__law_any_wordN) (c__law_far : Cal P K mg base 2 "_law_far" ["one", "other"] C__law_far) (c__law_is_on_side : Cal P K mg base 1 "_law_is_on_side" ["word", "edge", "end"] C__law_is_on_side) (c__law_sides : Cal P K mg base 4 "_law_sides" ["bag", "fleet", "one"] C__law_sides) (z_isinstance : mg "isinstance" = none) (z_range : mg "range" = none) (z_repr : mg "repr" = none) (z_sorted : mg "sorted" = none) (z_tuple : mg "tuple" = none) : FnG P WW.w K mg base CX0 5 f fd ["script"] (spP K C_law) := by
  refine NoI.keep (fun _ wNoI => ?_) ?_
  simp only [↓ NoI.wrOf wNoI (by
  clear wNoI
  refine okG F sc_law len_law fun cdv A outer s H E hG hr => ⟨t_law_k11 K, ?_, wp_law_k11⟩
  exact (pss_cons (ps_set (i := 1) sc_law.nd rfl (by first | exact .inl rfl | exact .inr rfl) (pe_callC c__law_bag hG (hr.mono (by decide)) (by rfl) (pa_cons (pv 0) pa_nil)))
  (pss_cons (ps_for PassesOwn.never rfl (pi_range1 (by rfl) z_range (pa_cons pe_int pa_nil)) (pg_name (i := 2) sc_law.nd rfl (by first | exact .inl rfl | exact .inr rfl))
    (pss_cons (ps_set (i := 3) sc_law.nd rfl (by first | exact .inl rfl | exact .inr rfl) (pe_tupF (pa_cons (pe_callTy call_tupF (by rfl) z_tuple (by decide +kernel) (pa_cons (pe_callC c__law_names hG (hr.mono (by decide)) (by rfl) (pa_cons (pv 1) (pa_cons (pe_callC c__law_some hG (hr.mono (by decide)) (by rfl) (pa_cons (pv 1) (pa_cons (pe_lst (pa_cons pe_int (pa_cons pe_int (pa_cons pe_int (pa_cons pe_int pa_nil))))) pa_nil))) pa_nil))) pa_nil)) (pa_cons (pe_tupF pa_nil) (pa_cons (pe_tupF pa_nil) pa_nil)))))
  (pss_cons (ps_set (i := 4) sc_law.nd rfl (by first | exact .inl rfl | exact .inr rfl) (pe_callC c__law_reduced hG (hr.mono (by decide)) (by rfl) (pa_cons (pe_callC c__law_any_word hG (hr.mono (by decide)) (by rfl) (pa_cons (pv 1) (pa_cons (pv 3) (pa_cons pe_int pa_nil)))) pa_nil)))
  (pss_cons (ps_setLc (i := 5) (own := [("again", 21)]) rfl sc_law.nd rfl rfl (sw_true rfl rfl rfl (by decide +kernel)) (pi_range1 (by rfl) z_range (pa_cons pe_int pa_nil)) (blkOk_by (own := [("again", 21)]) (N := N_law) (sc := defScope s_law) (by decide +kernel)) (fun _ _ _ _ _ => (pg_name (i := 21) sc_law.nd rfl (by first | exact .inl rfl | exact .inr rfl))) (fun _ _ _ _ _ => pts_nil) (fun _ _ _ _ _ => (pe_callC c__law_reduced hG (hr.mono (by decide)) (by rfl) (pa_cons (pe_op op_addU (pe_slice sl_U (pv 4) po_none (po_some (pe_callC c__law_take hG (hr.mono (by decide)) (by rfl) (pa_cons (pv 1) (pa_cons pe_int pa_nil))))) (pe_callC c__law_any_word hG (hr.mono (by decide)) (by rfl) (pa_cons (pv 1) (pa_cons (pv 3) (pa_cons pe_int pa_nil))))) pa_nil))))
  (pss_cons (ps_asg (pv 5) (pg_lst (by rfl) (pgs_cons (pg_name (i := 6) sc_law.nd rfl (by first | exact .inl rfl | exact .inr rfl)) (pgs_cons (pg_name (i := 7) sc_law.nd rfl (by first | exact .inl rfl | exact .inr rfl)) (pgs_cons (pg_name (i := 8) sc_law.nd rfl (by first | exact .inl rfl | exact .inr rfl)) pgs_nil)))))
  (pss_cons (ps_set (i := 9) sc_law.nd rfl (by first | exact .inl rfl | exact .inr rfl) (pe_callC c_median_word hG (hr.mono (by decide)) (by rfl) (pa_cons (pv 6) (pa_cons (pv 7) (pa_cons (pv 8) pa_nil)))))
  (pss_cons (ps_if (PW.pt (pw_or (pt_not (pt_tru (pe_callB call_isiX (by rfl) z_isinstance (by decide +kernel) (pa_cons (pv 9) (pa_cons (pe_bltn (by rfl) z_tuple (by decide +kernel) rfl) pa_nil))))) (pw_or1 (pt_cmpR (op_neU hr.units) (pe_callC c__law_reduced hG (hr.mono (by decide)) (by rfl) (pa_cons (pv 9) pa_nil)) (pv 9) (nomark _)))))
    (pss_one (ps_ret pe_bl))
    pss_nil)
  (pss_cons (ps_for PassesOwn.never rfl (pi_seq (pe_tupF (pa_cons (pe_tupF (pa_cons (pv 6) (pa_cons (pv 7) pa_nil))) (pa_cons (pe_tupF (pa_cons (pv 7) (pa_cons (pv 8) pa_nil))) (pa_cons (pe_tupF (pa_cons (pv 6) (pa_cons (pv 8) pa_nil))) pa_nil))))) (pg_tup (by rfl) (pgs_cons (pg_name (i := 10) sc_law.nd rfl (by first | exact .inl rfl | exact .inr rfl)) (pgs_cons (pg_name (i := 11) sc_law.nd rfl (by first | exact .inl rfl | exact .inr rfl)) pgs_nil)))
    (pss_one (ps_if (pt_cmpR (op_neU hr.units) (pe_op op_addU (pe_callC c__law_far hG (hr.mono (by decide)) (by rfl) (pa_cons (pv 10) (pa_cons (pv 9) pa_nil))) (pe_callC c__law_far hG (hr.mono (by decide)) (by rfl) (pa_cons (pv 9) (pa_cons (pv 11) pa_nil)))) (pe_callC c__law_far hG (hr.mono (by decide)) (by rfl) (pa_cons (pv 10) (pa_cons (pv 11) pa_nil))) (nomark _))
    (pss_one (ps_ret pe_bl))
    pss_nil)))
  (pss_cons (ps_set (i := 12) sc_law.nd rfl (by first | exact .inl rfl | exact .inr rfl) (pe_callC c__law_mixed hG (hr.mono (by decide)) (by rfl) (pa_cons (pv 1) (pa_cons (pv 5) pa_nil))))
  (pss_cons (ps_if (pt_not (pt_tru (pe_callC c__law_alike hG (hr.mono (by decide)) (by rfl) (pa_cons (pe_callC c_median_word hG (hr.mono (by decide)) (by rfl) (pa_cons (pe_ix (ix_U hr.units) (pv 12) pe_int (fun _ _ => rfl)) (pa_cons (pe_ix (ix_U hr.units) (pv 12) pe_int (fun _ _ => rfl)) (pa_cons (pe_ix (ix_U hr.units) (pv 12) pe_int (fun _ _ => rfl)) pa_nil)))) (pa_cons (pv 9) pa_nil)))))
    (pss_one (ps_ret pe_bl))
    pss_nil)
  (pss_cons (ps_set (i := 13) sc_law.nd rfl (by first | exact .inl rfl | exact .inr rfl) (pe_callC c__law_sides hG (hr.mono (by decide)) (by rfl) (pa_cons (pv 1) (pa_cons (pv 3) (pa_cons (pv 6) pa_nil)))))
  (pss_cons (ps_set (i := 14) sc_law.nd rfl (by first | exact .inl rfl | exact .inr rfl) (pe_op op_addU (pe_lst (pa_cons (pv 6) pa_nil)) (pe_lc (own := [("edge", 22), ("end", 23)]) rfl sc_law.nd (pi_seq (pv 13)) (blkOk_by (own := [("edge", 22), ("end", 23)]) (N := N_law) (sc := defScope s_law) (by decide +kernel)) (fun _ _ _ _ _ => (pg_tup (by rfl) (pgs_cons (pg_name (i := 22) sc_law.nd rfl (by first | exact .inl rfl | exact .inr rfl)) (pgs_cons (pg_name (i := 23) sc_law.nd rfl (by first | exact .inl rfl | exact .inr rfl)) pgs_nil)))) (fun _ _ _ _ _ => pts_nil) (fun _ _ _ _ _ => (pv 23)))))
  (pss_cons (ps_setLc (i := 15) (own := [("end", 23)]) rfl sc_law.nd rfl rfl (sw_true rfl rfl rfl (by decide +kernel)) (pi_seq (pv 14)) (blkOk_by (own := [("end", 23)]) (N := N_law) (sc := defScope s_law) (by decide +kernel)) (fun _ _ _ _ _ => (pg_name (i := 23) sc_law.nd rfl (by first | exact .inl rfl | exact .inr rfl))) (fun _ _ _ _ _ => (pts_one (pt_cmpR (op_eqU hr.units) (pe_lc (own := [("edge", 22), ("side", 24)]) rfl sc_law.nd (pi_seq (pv 13)) (blkOk_rel (own := [("edge", 22), ("side", 24)]) (N := N_law) (sc := { kind := .function, names := [(".0", .local), ("end", .cell), ("sides", .free)], isGenerator := false, isCoroutine := false }) (by decide +kernel)) (fun _ _ _ _ _ => (pg_tup (by rfl) (pgs_cons (pg_name (i := 22) sc_law.nd rfl (by first | exact .inl rfl | exact .inr rfl)) (pgs_cons (pg_name (i := 24) sc_law.nd rfl (by first | exact .inl rfl | exact .inr rfl)) pgs_nil)))) (fun _ _ _ _ _ => (pts_one (pt_not (pt_tru (pe_callC c__law_is_on_side hG (hr.mono (by decide)) (by rfl) (pa_cons (pv 23) (pa_cons (pv 22) (pa_cons (pv 24) pa_nil)))))))) (fun _ _ _ _ _ => pe_int)) (pe_lst pa_nil) (nomark _)))) (fun _ _ _ _ _ => (pv 23)))
  (pss_cons (ps_set (i := 16) sc_law.nd rfl (by first | exact .inl rfl | exact .inr rfl) (pe_slice sl_U (pe_callB (call_sortX hr) (by rfl) z_sorted (by decide +kernel) (pa_cons (pe_lc (own := [("end", 23)]) rfl sc_law.nd (pi_seq (pv 15)) (blkOk_by (own := [("end", 23)]) (N := N_law) (sc := defScope s_law) (by decide +kernel)) (fun _ _ _ _ _ => (pg_name (i := 23) sc_law.nd rfl (by first | exact .inl rfl | exact .inr rfl))) (fun _ _ _ _ _ => pts_nil) (fun _ _ _ _ _ => (pe_tupF (pa_cons (pe_callC c__law_far hG (hr.mono (by decide)) (by rfl) (pa_cons (pv 6) (pa_cons (pv 23) pa_nil))) (pa_cons (pv 23) pa_nil))))) pa_nil)) po_none (po_some pe_int)))
  (pss_cons (ps_par (i := 17) (j := 18) (by rfl) sc_law.nd rfl rfl (by decide) rfl rfl (pa_cons (pe_ifExp (pt_cmpR (op_neU hr.units) (pv 16) (pe_lst pa_nil) (nomark _)) (pe_ix (ix_U hr.units) (pe_ix (ix_U hr.units) (pv 16) pe_int (fun _ _ => rfl)) pe_int (fun _ _ => rfl)) pe_non) (pa_cons (pe_callB (call_reprW hG hr) (by rfl) z_repr (by decide +kernel) (pa_cons (pv 13) pa_nil)) pa_nil)) (by rfl))
  (pss_cons (ps_if (pt_not (pt_tru (pe_callC c__law_alike hG (hr.mono (by decide)) (by rfl) (pa_cons (pe_lst (pa_cons (pe_callC c_nearest hG (hr.mono (by decide)) (by rfl) (pa_cons (pv 6) (pa_cons (pv 13) pa_nil))) (pa_cons (pe_callC c_nearest hG (hr.mono (by decide)) (by rfl) (pa_cons (pv 6) (pa_cons (pe_callTy call_tupF (by rfl) z_tuple (by decide +kernel) (pa_cons (pe_callC c__law_mixed hG (hr.mono (by decide)) (by rfl) (pa_cons (pv 1) (pa_cons (pv 13) pa_nil))) pa_nil)) pa_nil))) pa_nil))) (pa_cons (pe_lst (pa_cons (pv 17) (pa_cons (pv 17) pa_nil))) pa_nil)))))
    (pss_one (ps_ret pe_bl))
    pss_nil)
  (pss_cons (ps_if (pt_cmpR (op_neU hr.units) (pe_callB (call_reprW hG hr) (by rfl) z_repr (by decide +kernel) (pa_cons (pv 13) pa_nil)) (pv 18) (nomark _))
    (pss_one (ps_ret pe_bl))
    pss_nil)
  (pss_cons (ps_set (i := 19) sc_law.nd rfl (by first | exact .inl rfl | exact .inr rfl) (pe_lst pa_nil))
  (pss_cons (ps_for PassesOwn.never rfl (pi_seq (pv 13)) (pg_name (i := 10) sc_law.nd rfl (by first | exact .inl rfl | exact .inr rfl))
    (pss_one (ps_for PassesOwn.never rfl (pi_seq (pv 13)) (pg_name (i := 11) sc_law.nd rfl (by first | exact .inl rfl | exact .inr rfl))
    (pss_cons (ps_set (i := 20) sc_law.nd rfl (by first | exact .inl rfl | exact .inr rfl) (pe_lst (pa_cons (pe_ix (ix_U hr.units) (pv 10) pe_int (fun _ _ => rfl)) (pa_cons (pe_ix (ix_U hr.units) (pv 11) pe_int (fun _ _ => rfl)) pa_nil))))
  (pss_one (ps_expr (pe_bm PySem.F.plainAttrs_list PySem.F.slot_list_append PySem.F.type_list_append mt_append (pv 19) (pa_cons (pe_lc (own := [("end", 23)]) rfl sc_law.nd (pi_seq (pv 20)) (blkOk_by (own := [("end", 23)]) (N := N_law) (sc := defScope s_law) (by decide +kernel)) (fun _ _ _ _ _ => (pg_name (i := 23) sc_law.nd rfl (by first | exact .inl rfl | exact .inr rfl))) (fun _ _ _ _ _ => (pts_one (PW.pt (pw_and (pt_tru (pe_callC c__law_is_on_side hG (hr.mono (by decide)) (by rfl) (pa_cons (pv 23) (pa_cons (pe_ix (ix_U hr.units) (pv 10) pe_int (fun _ _ => rfl)) (pa_cons (pe_ix (ix_U hr.units) (pv 10) pe_int (fun _ _ => rfl)) pa_nil))))) (pw_and1 (pt_tru (pe_callC c__law_is_on_side hG (hr.mono (by decide)) (by rfl) (pa_cons (pv 23) (pa_cons (pe_ix (ix_U hr.units) (pv 11) pe_int (fun _ _ => rfl)) (pa_cons (pe_ix (ix_U hr.units) (pv 11) pe_int (fun _ _ => rfl)) pa_nil)))))))))) (fun _ _ _ _ _ => (pv 23))) pa_nil))))))))
  (pss_one (ps_if (pt_cmpR (op_neU hr.units) (pe_cmpR op_isNo (pv 17) pe_non (nomark _)) (pe_cmpR (op_inX hr.units) (pe_lst pa_nil) (pv 19) (by with_unfolding_all rfl)) (nomark _))
    (pss_one (ps_ret pe_bl))
    pss_nil)))))))))))))))))))))
  (pss_one (ps_ret pe_bl))))
  )]
  intro _ hNoI
  simpa using (fun (_ : NoI.Sg) => hNoI) [5]
end
set_option maxHeartbeats 0 in
theorem all_mk [ww : WW] {l : PySem.W.OpenLaw} {K : PySem.W.Frag} {h : Heap} {mg : Str → Option Value} {fa : Addr} (X : K.In h) (G : h.Ns mainGlobals mg) (hfa : mg "law" = some (.ref fa))
    {f0 : Addr} {od0 an0 : Option Addr} {sl0 : Array (Option Value)} {oc0 kV0 dc0 pm0 cd0 ct0 : Value}
    (a0 : PySem.W.nsIn K mainGlobals "common_length" = some (some (.ref f0))) (l0 : K.lookup f0 = some ⟨oc0, od0, .func (PySem.W.fnOf "common_length" "common_length" (defArgs s_common_length) (defBody s_common_length) (defScope s_common_length) .none kV0 dc0 pm0 an0 cd0 ct0), sl0⟩) (d0 : PySem.W.codeIn K cd0 "common_length" = true) (k0 : PySem.W.keepIn K (.ref f0) = true)
    {f1 : Addr} {od1 an1 : Option Addr} {sl1 : Array (Option Value)} {oc1 kV1 dc1 pm1 cd1 ct1 : Value}
    (a1 : PySem.W.nsIn K mainGlobals "begins_with" = some (some (.ref f1))) (l1 : K.lookup f1 = some ⟨oc1, od1, .func (PySem.W.fnOf "begins_with" "begins_with" (defArgs s_begins_with) (defBody s_begins_with) (defScope s_begins_with) .none kV1 dc1 pm1 an1 cd1 ct1), sl1⟩) (d1 : PySem.W.codeIn K cd1 "begins_with" = true) (k1 : PySem.W.keepIn K (.ref f1) = true)
    {f2 : Addr} {od2 an2 : Option Addr} {sl2 : Array (Option Value)} {oc2 kV2 dc2 pm2 cd2 ct2 : Value}
    (a2 : PySem.W.nsIn K mainGlobals "longer_end" = some (some (.ref f2))) (l2 : K.lookup f2 = some ⟨oc2, od2, .func (PySem.W.fnOf "longer_end" "longer_end" (defArgs s_longer_end) (defBody s_longer_end) (defScope s_longer_end) .none kV2 dc2 pm2 an2 cd2 ct2), sl2⟩) (d2 : PySem.W.codeIn K cd2 "longer_end" = true) (k2 : PySem.W.keepIn K (.ref f2) = true)
    {f3 : Addr} {od3 an3 : Option Addr} {sl3 : Array (Option Value)} {oc3 kV3 dc3 pm3 cd3 ct3 : Value}
    (a3 : PySem.W.nsIn K mainGlobals "median_word" = some (some (.ref f3))) (l3 : K.lookup f3 = some ⟨oc3, od3, .func (PySem.W.fnOf "median_word" "median_word" (defArgs s_median_word) (defBody s_median_word) (defScope s_median_word) .none kV3 dc3 pm3 an3 cd3 ct3), sl3⟩) (d3 : PySem.W.codeIn K cd3 "median_word" = true) (k3 : PySem.W.keepIn K (.ref f3) = true)
    {f4 : Addr} {od4 an4 : Option Addr} {sl4 : Array (Option Value)} {oc4 kV4 dc4 pm4 cd4 ct4 : Value}
    (a4 : PySem.W.nsIn K mainGlobals "nearest" = some (some (.ref f4))) (l4 : K.lookup f4 = some ⟨oc4, od4, .func (PySem.W.fnOf "nearest" "nearest" (defArgs s_nearest) (defBody s_nearest) (defScope s_nearest) .none kV4 dc4 pm4 an4 cd4 ct4), sl4⟩) (d4 : PySem.W.codeIn K cd4 "nearest" = true) (k4 : PySem.W.keepIn K (.ref f4) = true)
    {f5 : Addr} {od5 an5 : Option Addr} {sl5 : Array (Option Value)} {oc5 kV5 dc5 pm5 cd5 ct5 : Value}
    (a5 : PySem.W.nsIn K mainGlobals "_law_bag" = some (some (.ref f5))) (l5 : K.lookup f5 = some ⟨oc5, od5, .func (PySem.W.fnOf "_law_bag" "_law_bag" (defArgs s__law_bag) (defBody s__law_bag) (defScope s__law_bag) .none kV5 dc5 pm5 an5 cd5 ct5), sl5⟩) (d5 : PySem.W.codeIn K cd5 "_law_bag" = true) (k5 : PySem.W.keepIn K (.ref f5) = true)
    {f6 : Addr} {od6 an6 : Option Addr} {sl6 : Array (Option Value)} {oc6 kV6 dc6 pm6 cd6 ct6 : Value}
    (a6 : PySem.W.nsIn K mainGlobals "_law_take" = some (some (.ref f6))) (l6 : K.lookup f6 = some ⟨oc6, od6, .func (PySem.W.fnOf "_law_take" "_law_take" (defArgs s__law_take) (defBody s__law_take) (defScope s__law_take) .none kV6 dc6 pm6 an6 cd6 ct6), sl6⟩) (d6 : PySem.W.codeIn K cd6 "_law_take" = true) (k6 : PySem.W.keepIn K (.ref f6) = true)
    {f7 : Addr} {od7 an7 : Option Addr} {sl7 : Array (Option Value)} {oc7 kV7 dc7 pm7 cd7 ct7 : Value}
    (a7 : PySem.W.nsIn K mainGlobals "_law_some" = some (some (.ref f7))) (l7 : K.lookup f7 = some ⟨oc7, od7, .func (PySem.W.fnOf "_law_some" "_law_some" (defArgs s__law_some) (defBody s__law_some) (defScope s__law_some) .none kV7 dc7 pm7 an7 cd7 ct7), sl7⟩) (d7 : PySem.W.codeIn K cd7 "_law_some" = true) (k7 : PySem.W.keepIn K (.ref f7) = true)
    {f8 : Addr} {od8 an8 : Option Addr} {sl8 : Array (Option Value)} {oc8 kV8 dc8 pm8 cd8 ct8 : Value}
    (a8 : PySem.W.nsIn K mainGlobals "_law_mixed" = some (some (.ref f8))) (l8 : K.lookup f8 = some ⟨oc8, od8, .func (PySem.W.fnOf "_law_mixed" "_law_mixed" (defArgs s__law_mixed) (defBody s__law_mixed) (defScope s__law_mixed) .none kV8 dc8 pm8 an8 cd8 ct8), sl8⟩) (d8 : PySem.W.codeIn K cd8 "_law_mixed" = true) (k8 : PySem.W.keepIn K (.ref f8) = true)
    {f9 : Addr} {od9 an9 : Option Addr} {sl9 : Array (Option Value)} {oc9 kV9 dc9 pm9 cd9 ct9 : Value}
    (a9 : PySem.W.nsIn K mainGlobals "_law_alike" = some (some (.ref f9))) (l9 : K.lookup f9 = some ⟨oc9, od9, .func (PySem.W.fnOf "_law_alike" "_law_alike" (defArgs s__law_alike) (defBody s__law_alike) (defScope s__law_alike) .none kV9 dc9 pm9 an9 cd9 ct9), sl9⟩) (d9 : PySem.W.codeIn K cd9 "_law_alike" = true) (k9 : PySem.W.keepIn K (.ref f9) = true)
    {f10 : Addr} {od10 an10 : Option Addr} {sl10 : Array (Option Value)} {oc10 kV10 dc10 pm10 cd10 ct10 : Value}
    (a10 : PySem.W.nsIn K mainGlobals "_law_names" = some (some (.ref f10))) (l10 : K.lookup f10 = some ⟨oc10, od10, .func (PySem.W.fnOf "_law_names" "_law_names" (defArgs s__law_names) (defBody s__law_names) (defScope s__law_names) .none kV10 dc10 pm10 an10 cd10 ct10), sl10⟩) (d10 : PySem.W.codeIn K cd10 "_law_names" = true) (k10 : PySem.W.keepIn K (.ref f10) = true)
    {f11 : Addr} {od11 an11 : Option Addr} {sl11 : Array (Option Value)} {oc11 kV11 dc11 pm11 cd11 ct11 : Value}
    (a11 : PySem.W.nsIn K mainGlobals "_law_reduced" = some (some (.ref f11))) (l11 : K.lookup f11 = some ⟨oc11, od11, .func (PySem.W.fnOf "_law_reduced" "_law_reduced" (defArgs s__law_reduced) (defBody s__law_reduced) (defScope s__law_reduced) .none kV11 dc11 pm11 an11 cd11 ct11), sl11⟩) (d11 : PySem.W.codeIn K cd11 "_law_reduced" = true) (k11 : PySem.W.keepIn K (.ref f11) = true)
    {f12 : Addr} {od12 an12 : Option Addr} {sl12 : Array (Option Value)} {oc12 kV12 dc12 pm12 cd12 ct12 : Value}
    (a12 : PySem.W.nsIn K mainGlobals "_law_way" = some (some (.ref f12))) (l12 : K.lookup f12 = some ⟨oc12, od12, .func (PySem.W.fnOf "_law_way" "_law_way" (defArgs s__law_way) (defBody s__law_way) (defScope s__law_way) .none kV12 dc12 pm12 an12 cd12 ct12), sl12⟩) (d12 : PySem.W.codeIn K cd12 "_law_way" = true) (k12 : PySem.W.keepIn K (.ref f12) = true)
    {f13 : Addr} {od13 an13 : Option Addr} {sl13 : Array (Option Value)} {oc13 kV13 dc13 pm13 cd13 ct13 : Value}
    (a13 : PySem.W.nsIn K mainGlobals "_law_any_word" = some (some (.ref f13))) (l13 : K.lookup f13 = some ⟨oc13, od13, .func (PySem.W.fnOf "_law_any_word" "_law_any_word" (defArgs s__law_any_word) (defBody s__law_any_word) (defScope s__law_any_word) .none kV13 dc13 pm13 an13 cd13 ct13), sl13⟩) (d13 : PySem.W.codeIn K cd13 "_law_any_word" = true) (k13 : PySem.W.keepIn K (.ref f13) = true)
    {f14 : Addr} {od14 an14 : Option Addr} {sl14 : Array (Option Value)} {oc14 kV14 dc14 pm14 cd14 ct14 : Value}
    (a14 : PySem.W.nsIn K mainGlobals "_law_far" = some (some (.ref f14))) (l14 : K.lookup f14 = some ⟨oc14, od14, .func (PySem.W.fnOf "_law_far" "_law_far" (defArgs s__law_far) (defBody s__law_far) (defScope s__law_far) .none kV14 dc14 pm14 an14 cd14 ct14), sl14⟩) (d14 : PySem.W.codeIn K cd14 "_law_far" = true) (k14 : PySem.W.keepIn K (.ref f14) = true)
    {f15 : Addr} {od15 an15 : Option Addr} {sl15 : Array (Option Value)} {oc15 kV15 dc15 pm15 cd15 ct15 : Value}
    (a15 : PySem.W.nsIn K mainGlobals "_law_is_on_side" = some (some (.ref f15))) (l15 : K.lookup f15 = some ⟨oc15, od15, .func (PySem.W.fnOf "_law_is_on_side" "_law_is_on_side" (defArgs s__law_is_on_side) (defBody s__law_is_on_side) (defScope s__law_is_on_side) .none kV15 dc15 pm15 an15 cd15 ct15), sl15⟩) (d15 : PySem.W.codeIn K cd15 "_law_is_on_side" = true) (k15 : PySem.W.keepIn K (.ref f15) = true)
    {f16 : Addr} {od16 an16 : Option Addr} {sl16 : Array (Option Value)} {oc16 kV16 dc16 pm16 cd16 ct16 : Value}
    (a16 : PySem.W.nsIn K mainGlobals "_law_sides" = some (some (.ref f16))) (l16 : K.lookup f16 = some ⟨oc16, od16, .func (PySem.W.fnOf "_law_sides" "_law_sides" (defArgs s__law_sides) (defBody s__law_sides) (defScope s__law_sides) .none kV16 dc16 pm16 an16 cd16 ct16), sl16⟩) (d16 : PySem.W.codeIn K cd16 "_law_sides" = true) (k16 : PySem.W.keepIn K (.ref f16) = true)
    {f17 : Addr} {od17 an17 : Option Addr} {sl17 : Array (Option Value)} {oc17 kV17 dc17 pm17 cd17 ct17 : Value}
    (a17 : PySem.W.nsIn K mainGlobals "law" = some (some (.ref f17))) (l17 : K.lookup f17 = some ⟨oc17, od17, .func (PySem.W.fnOf "law" "law" (defArgs s_law) (defBody s_law) (defScope s_law) .none kV17 dc17 pm17 an17 cd17 ct17), sl17⟩) (d17 : PySem.W.codeIn K cd17 "law" = true) (k17 : PySem.W.keepIn K (.ref f17) = true)
    (z_abs : PySem.W.nsIn K mainGlobals "abs" = some none)
    (z_all : PySem.W.nsIn K mainGlobals "all" = some none)
    (z_any : PySem.W.nsIn K mainGlobals "any" = some none)
    (z_int : PySem.W.nsIn K mainGlobals "int" = some none)
    (z_isinstance : PySem.W.nsIn K mainGlobals "isinstance" = some none)
    (z_len : PySem.W.nsIn K mainGlobals "len" = some none)
    (z_max : PySem.W.nsIn K mainGlobals "max" = some none)
    (z_min : PySem.W.nsIn K mainGlobals "min" = some none)
    (z_range : PySem.W.nsIn K mainGlobals "range" = some none)
    (z_repr : PySem.W.nsIn K mainGlobals "repr" = some none)
    (z_sorted : PySem.W.nsIn K mainGlobals "sorted" = some none)
    (z_tuple : PySem.W.nsIn K mainGlobals "tuple" = some none)
    : ∃ fd : FuncData, (∀ (s : Shared) (v : Value), BindsTo s fd ⟨[v], []⟩ [("script", v)]) ∧ ∀ base : Heap, K.In base → base.Ns mainGlobals mg → FnG l.prog WW.w K mg base CX0 5 fa fd ["script"] (spP K C_law) := by
  refine NoI.keep (fun _ wNoI => ?_) ?_
  simp only [↓ NoI.wrOf wNoI (by
  clear wNoI
  have e := hfa.symm.trans (PySem.W.mg_of X G a17)
  cases e
  have y_abs := PySem.W.mg_none_of X G z_abs
  have y_all := PySem.W.mg_none_of X G z_all
  have y_any := PySem.W.mg_none_of X G z_any
  have y_int := PySem.W.mg_none_of X G z_int
  have y_isinstance := PySem.W.mg_none_of X G z_isinstance
  have y_len := PySem.W.mg_none_of X G z_len
  have y_max := PySem.W.mg_none_of X G z_max
  have y_min := PySem.W.mg_none_of X G z_min
  have y_range := PySem.W.mg_none_of X G z_range
  have y_repr := PySem.W.mg_none_of X G z_repr
  have y_sorted := PySem.W.mg_none_of X G z_sorted
  have y_tuple := PySem.W.mg_none_of X G z_tuple
  refine ⟨PySem.W.fnOf "law" "law" (defArgs s_law) (defBody s_law) (defScope s_law) .none kV17 dc17 pm17 an17 cd17 ct17, fun s v => .of_eq rfl, fun base _ _ => ?_⟩
  have F0 := fun_mk (st := s_common_length) l0 d0 k0
  have c_common_length : Cal l.prog K mg base 1 "common_length" ["one", "other"] C_common_length := ⟨_, _, ok_common_length F0 y_len y_min, F0.binds (ps := ["one", "other"]) (fun _ _ _ _ _ _ us hl => match us, hl with | [_, _], _ => rfl), PySem.W.mg_of X G a0, F0.kp⟩
  have F1 := fun_mk (st := s_begins_with) l1 d1 k1
  have c_begins_with : Cal l.prog K mg base 1 "begins_with" ["word", "beginning"] C_begins_with := ⟨_, _, ok_begins_with F1 y_len, F1.binds (ps := ["word", "beginning"]) (fun _ _ _ _ _ _ us hl => match us, hl with | [_, _], _ => rfl), PySem.W.mg_of X G a1, F1.kp⟩
  have F2 := fun_mk (st := s_longer_end) l2 d2 k2
  have c_longer_end : Cal l.prog K mg base 1 "longer_end" ["edge"] C_longer_end := ⟨_, _, ok_longer_end F2 , F2.binds (ps := ["edge"]) (fun _ _ _ _ _ _ us hl => match us, hl with | [_], _ => rfl), PySem.W.mg_of X G a2, F2.kp⟩
  have F3 := fun_mk (st := s_median_word) l3 d3 k3
  have c_median_word : Cal l.prog K mg base 2 "median_word" ["one", "other", "third"] C_median_word := ⟨_, _, ok_median_word F3 c_common_length y_len y_max, F3.binds (ps := ["one", "other", "third"]) (fun _ _ _ _ _ _ us hl => match us, hl with | [_, _, _], _ => rfl), PySem.W.mg_of X G a3, F3.kp⟩
  have F4 := fun_mk (st := s_nearest) l4 d4 k4
  have c_nearest : Cal l.prog K mg base 2 "nearest" ["one", "sides"] C_nearest := ⟨_, _, ok_nearest F4 c_begins_with c_longer_end y_all y_any y_len y_max y_min, F4.binds (ps := ["one", "sides"]) (fun _ _ _ _ _ _ us hl => match us, hl with | [_, _], _ => rfl), PySem.W.mg_of X G a4, F4.kp⟩
  have F5 := fun_mk (st := s__law_bag) l5 d5 k5
  have c__law_bag : Cal l.prog K mg base 1 "_law_bag" ["script"] C__law_bag := ⟨_, _, ok__law_bag F5 y_abs, F5.binds (ps := ["script"]) (fun _ _ _ _ _ _ us hl => match us, hl with | [_], _ => rfl), PySem.W.mg_of X G a5, F5.kp⟩
  have F6 := fun_mk (st := s__law_take) l6 d6 k6
  have c__law_take : Cal l.prog K mg base 1 "_law_take" ["bag", "many"] C__law_take := ⟨_, _, ok__law_take F6 y_int, F6.binds (ps := ["bag", "many"]) (fun _ _ _ _ _ _ us hl => match us, hl with | [_, _], _ => rfl), PySem.W.mg_of X G a6, F6.kp⟩
  have F7 := fun_mk (st := s__law_some) l7 d7 k7
  have c__law_some : Cal l.prog K mg base 2 "_law_some" ["bag", "things"] C__law_some := ⟨_, _, ok__law_some F7 c__law_take y_len, F7.binds (ps := ["bag", "things"]) (fun _ _ _ _ _ _ us hl => match us, hl with | [_, _], _ => rfl), PySem.W.mg_of X G a7, F7.kp⟩
  have F8 := fun_mk (st := s__law_mixed) l8 d8 k8
  have c__law_mixed : Cal l.prog K mg base 2 "_law_mixed" ["bag", "things"] C__law_mixed := ⟨_, _, ok__law_mixed F8 c__law_take y_len, F8.binds (ps := ["bag", "things"]) (fun _ _ _ _ _ _ us hl => match us, hl with | [_, _], _ => rfl), PySem.W.mg_of X G a8, F8.kp⟩
  have F9 := fun_mk (st := s__law_alike) l9 d9 k9
  have c__law_alike : Cal l.prog K mg base 1 "_law_alike" ["found", "due"] C__law_alike := ⟨_, _, ok__law_alike F9 y_repr, F9.binds (ps := ["found", "due"]) (fun _ _ _ _ _ _ us hl => match us, hl with | [_, _], _ => rfl), PySem.W.mg_of X G a9, F9.kp⟩
  have F10 := fun_mk (st := s__law_names) l10 d10 k10
  have c__law_names : Cal l.prog K mg base 3 "_law_names" ["bag", "many"] C__law_names := ⟨_, _, ok__law_names F10 c__law_take c__law_some c__law_mixed y_int y_range, F10.binds (ps := ["bag", "many"]) (fun _ _ _ _ _ _ us hl => match us, hl with | [_, _], _ => rfl), PySem.W.mg_of X G a10, F10.kp⟩
  have F11 := fun_mk (st := s__law_reduced) l11 d11 k11
  have c__law_reduced : Cal l.prog K mg base 1 "_law_reduced" ["word"] C__law_reduced := ⟨_, _, ok__law_reduced F11 y_tuple, F11.binds (ps := ["word"]) (fun _ _ _ _ _ _ us hl => match us, hl with | [_], _ => rfl), PySem.W.mg_of X G a11, F11.kp⟩
  have F12 := fun_mk (st := s__law_way) l12 d12 k12
  have c__law_way : Cal l.prog K mg base 1 "_law_way" ["one", "other"] C__law_way := ⟨_, _, ok__law_way F12 y_len y_min y_range, F12.binds (ps := ["one", "other"]) (fun _ _ _ _ _ _ us hl => match us, hl with | [_, _], _ => rfl), PySem.W.mg_of X G a12, F12.kp⟩
  have F13 := fun_mk (st := s__law_any_word) l13 d13 k13
  have c__law_any_word : Cal l.prog K mg base 3 "_law_any_word" ["bag", "fleet", "most"] C__law_any_wordN := ⟨_, _, ok__law_any_word F13 c__law_take c__law_some y_range y_tuple, F13.binds (ps := ["bag", "fleet", "most"]) (fun _ _ _ _ _ _ us hl => match us, hl with | [_, _, _], _ => rfl), PySem.W.mg_of X G a13, F13.kp⟩
  have F14 := fun_mk (st := s__law_far) l14 d14 k14
  have c__law_far : Cal l.prog K mg base 2 "_law_far" ["one", "other"] C__law_far := ⟨_, _, ok__law_far F14 c__law_way y_len, F14.binds (ps := ["one", "other"]) (fun _ _ _ _ _ _ us hl => match us, hl with | [_, _], _ => rfl), PySem.W.mg_of X G a14, F14.kp⟩
  have F15 := fun_mk (st := s__law_is_on_side) l15 d15 k15
  have c__law_is_on_side : Cal l.prog K mg base 1 "_law_is_on_side" ["word", "edge", "end"] C__law_is_on_side := ⟨_, _, ok__law_is_on_side F15 y_len, F15.binds (ps := ["word", "edge", "end"]) (fun _ _ _ _ _ _ us hl => match us, hl with | [_, _, _], _ => rfl), PySem.W.mg_of X G a15, F15.kp⟩
  have F16 := fun_mk (st := s__law_sides) l16 d16 k16
  have c__law_sides : Cal l.prog K mg base 4 "_law_sides" ["bag", "fleet", "one"] C__law_sides := ⟨_, _, ok__law_sides F16 c__law_take c__law_some c__law_reduced c__law_any_word y_len y_range, F16.binds (ps := ["bag", "fleet", "one"]) (fun _ _ _ _ _ _ us hl => match us, hl with | [_, _, _], _ => rfl), PySem.W.mg_of X G a16, F16.kp⟩
  have F17 := fun_mk (st := s_law) l17 d17 k17
  exact ok_law F17 c_median_word c_nearest c__law_bag c__law_take c__law_some c__law_mixed c__law_alike c__law_names c__law_reduced c__law_any_word c__law_far c__law_is_on_side c__law_sides y_isinstance y_range y_repr y_sorted y_tuple
  )]
  intro _ hNoI
  simpa using (fun (_ : NoI.Sg) => hNoI) [5]
end LW
open PySem PySem.W PyProof.Rows
set_option maxHeartbeats 0 in
theorem PySem.Challenge.cw_sparehop_k11_medians_and_nearest_words_holds : PySem.Challenge.rw_sparehop_k11_medians_and_nearest_words.Holds := by
  w_on; o_law; k_head; (case hw => w_witness2)
  k_fill
  refine SH.walk_ofG (l := PySem.Challenge.rw_sparehop_k11_medians_and_nearest_words) (n := 63) (k := 5) (x := "script") (sp := fun w => @SH.spP ⟨w⟩ _ LW.C_law) rfl (by decide) rfl ⟨rfl, by decide, by decide⟩ (fun w h Y => PySem.W.kIn_of Y) ?F (fun w _ a ns hl hO hS => @LW.law_start ⟨w⟩ _ _ _ _ hl hO hS)
  case F =>
    intro w mg fa h KX G hmg
    letI : SH.WW := ⟨w⟩
    refine' LW.all_mk KX G hmg ?ha0 ?hl0 ?hd0 ?hk0 ?ha1 ?hl1 ?hd1 ?hk1 ?ha2 ?hl2 ?hd2 ?hk2 ?ha3 ?hl3 ?hd3 ?hk3 ?ha4 ?hl4 ?hd4 ?hk4 ?ha5 ?hl5 ?hd5 ?hk5 ?ha6 ?hl6 ?hd6 ?hk6 ?ha7 ?hl7 ?hd7 ?hk7 ?ha8 ?hl8 ?hd8 ?hk8 ?ha9 ?hl9 ?hd9 ?hk9 ?ha10 ?hl10 ?hd10 ?hk10 ?ha11 ?hl11 ?hd11 ?hk11 ?ha12 ?hl12 ?hd12 ?hk12 ?ha13 ?hl13 ?hd13 ?hk13 ?ha14 ?hl14 ?hd14 ?hk14 ?ha15 ?hl15 ?hd15 ?hk15 ?ha16 ?hl16 ?hd16 ?hk16 ?ha17 ?hl17 ?hd17 ?hk17 ?hz_abs ?hz_all ?hz_any ?hz_int ?hz_isinstance ?hz_len ?hz_max ?hz_min ?hz_range ?hz_repr ?hz_sorted ?hz_tuple
    (case ha0 => k_is)
    (case hl0 => k_is)
    (case hd0 => k_is)
    (case hk0 => k_is)
    (case ha1 => k_is)
    (case hl1 => k_is)
    (case hd1 => k_is)
    (case hk1 => k_is)
    (case ha2 => k_is)
    (case hl2 => k_is)
    (case hd2 => k_is)
    (case hk2 => k_is)
    (case ha3 => k_is)
    (case hl3 => k_is)
    (case hd3 => k_is)
    (case hk3 => k_is)
    (case ha4 => k_is)
    (case hl4 => k_is)
    (case hd4 => k_is)
    (case hk4 => k_is)
    (case ha5 => k_is)
    (case hl5 => k_is)
    (case hd5 => k_is)
    (case hk5 => k_is)
    (case ha6 => k_is)
    (case hl6 => k_is)
    (case hd6 => k_is)
    (case hk6 => k_is)
    (case ha7 => k_is)
    (case hl7 => k_is)
    (case hd7 => k_is)
    (case hk7 => k_is)
    (case ha8 => k_is)
    (case hl8 => k_is)
    (case hd8 => k_is)
    (case hk8 => k_is)
    (case ha9 => k_is)
    (case hl9 => k_is)
    (case hd9 => k_is)
    (case hk9 => k_is)
    (case ha10 => k_is)
    (case hl10 => k_is)
    (case hd10 => k_is)
    (case hk10 => k_is)
    (case ha11 => k_is)
    (case hl11 => k_is)
    (case hd11 => k_is)
    (case hk11 => k_is)
    (case ha12 => k_is)
    (case hl12 => k_is)
    (case hd12 => k_is)
    (case hk12 => k_is)
    (case ha13 => k_is)
    (case hl13 => k_is)
    (case hd13 => k_is)
    (case hk13 => k_is)
    (case ha14 => k_is)
    (case hl14 => k_is)
    (case hd14 => k_is)
    (case hk14 => k_is)
    (case ha15 => k_is)
    (case hl15 => k_is)
    (case hd15 => k_is)
    (case hk15 => k_is)
    (case ha16 => k_is)
    (case hl16 => k_is)
    (case hd16 => k_is)
    (case hk16 => k_is)
    (case ha17 => k_is)
    (case hl17 => k_is)
    (case hd17 => k_is)
    (case hk17 => k_is)
    (case hz_abs => k_is)
    (case hz_all => k_is)
    (case hz_any => k_is)
    (case hz_int => k_is)
    (case hz_isinstance => k_is)
    (case hz_len => k_is)
    (case hz_max => k_is)
    (case hz_min => k_is)
    (case hz_range => k_is)
    (case hz_repr => k_is)
    (case hz_sorted => k_is)
    (case hz_tuple => k_is)

