import PyProof.Rows.All
import Wide.All
import OpenK.AllK
import Wide.FinOn
import HandS.ForMost
import HandS.Wide
import KE.KDictDisplayH
import KE.KDictPairs
import KE.KDictWalk
import HandS.TupAny
import HandS.DictEq
import KE.KDictKeyed
import PyProof.ReprReads
import KE.KEqNest
import HandS.Style
import HandS.Strs
import HandS.More
import HandS.Sort
import HandS.Zip
import KE.KDictZip
import KE.KDictOf
import HandS.TupMul
import HandS.RaiseMore
import HandS.IsInst
import KE.GoesEnum
import KE.GoesMore
import PyProof.EnumMake
import KE.SortData
import PyProof.P3In
import HandS.ExcInit
import HandS.ExcField
import HandS.ExcIs
import HandS.SortKw
import HandS.Conv
import KE.DataMinMax
import HandS.TryOnly
import HandS.RevRange
import HandS.Star
import HandS.DictComp
import HandS.TupLen
import KE.KDictCopyH
import PyProof.SumAny
import HandS.TupSets
import HandS.SetFor
import KE.GoesZip
import PySem.Challenge.RW_sparehop_k25_whole_each_edit_moves_one_l
set_option Elab.async false
set_option linter.all false
set_option maxRecDepth 100000
namespace NoI
structure Sg where
  a : Nat
instance : Coe (List Nat) Sg := ⟨fun _ => ⟨0⟩⟩
structure Tg where
  p : Prop
def Wr (w : Tg) : Prop := w.p
theorem keep {p : Prop} (h : ∀ w : Tg, w.p = p → Wr w) (_ : ∀ q : Prop, False → q) : p := h ⟨p⟩ rfl
theorem wrOf {w : Tg} {p : Prop} (e : w.p = p) (h : p) : Wr w := e.mpr h
end NoI
/-! A layer of data over HandS: what a slot holds is told as a tree of data; lists that are still changed stand in numbered cells of their own. -/
namespace SH
open PySem PySem.Spec PyProof.Rows L2
/-- the world, for hashes -/
class WW where
  w : World
variable [WW]

abbrev D := PyData

/-! ### the frozen part of a heap -/
open Classical in
noncomputable def Fz (Z : Addr → Prop) (H : Hp) : Hp := fun a => if Z a then none else H a
theorem Fz_of {Z : Addr → Prop} {H : Hp} {a : Addr} {o : HO} (hz : ¬ Z a) (h : H a = some o) : Fz Z H a = some o := by
  unfold Fz; rw [if_neg hz]; exact h
theorem Fz_inv {Z : Addr → Prop} {H : Hp} {a : Addr} {o : HO} (h : Fz Z H a = some o) : ¬ Z a ∧ H a = some o := by
  unfold Fz at h
  split at h
  · cases h
  · exact ⟨‹_›, h⟩
/-- a dict: it may come to be locked -/
def Dc : HO → Bool
  | .dK _ => true
  | .ext _ => true
  | _ => false
/-- what is there stays; a dict may be locked meanwhile -/
def Same (H H' : Hp) : Prop := ∀ b o, H b = some o → H' b = some o ∨ (Dc o = true ∧ ∃ od, H' b = some (.frz od o))
theorem Same.of {H H' : Hp} (e : ∀ b o, H b = some o → H' b = some o) : Same H H' := fun b o h => .inl (e b o h)
theorem Same.nd {H H' : Hp} (e : Same H H') {b : Addr} {o : HO} (h : H b = some o) (n : Dc o = false) : H' b = some o := by
  rcases e b o h with q | ⟨q, _⟩
  · exact q
  · rw [n] at q; cases q
theorem Same.trans {H H1 H2 : Hp} (a : Same H H1) (b : Same H1 H2) : Same H H2 := fun c o h => by
  rcases a c o h with q | ⟨q, od, r⟩
  · exact b c o q
  · exact .inr ⟨q, od, b.nd r rfl⟩
theorem Same.ex {H H' : Hp} (e : Same H H') {b : Addr} {o : HO} (h : H b = some o) : H' b ≠ none := by
  rcases e b o h with q | ⟨_, od, q⟩ <;> (rw [q]; intro z; cases z)
theorem Same.seq {K : PySem.W.Frag} {H H' : Hp} {a : Addr} {xs : List V} (e : Same H H') (h : SqL K H a xs) : SqL K H' a xs := by
  rcases h with (h | ⟨o, h⟩) | h
  · exact .inl (.inl (e.nd h rfl))
  · exact .inl (.inr ⟨o, e.nd h rfl⟩)
  · exact .inr h
theorem Fz_le {Z : Addr → Prop} {H : Hp} : Same (Fz Z H) H := .of fun _ _ h => (Fz_inv h).2
theorem Fz_at {Z : Addr → Prop} {H : Hp} {a : Addr} {o : HO} (h : Fz Z H a = some o) : H a = some o := (Fz_inv h).2
theorem sqT_same {K : PySem.W.Frag} {H H' : Hp} {a : Addr} {xs : List V} (e : Same H H') (h : SqT K H a xs) : SqT K H' a xs := by
  rcases h with (h | ⟨o, h⟩) | h
  · exact .inl (.inl (e.nd h rfl))
  · exact .inl (.inr ⟨o, e.nd h rfl⟩)
  · exact .inr h
/-- a tuple of which all is known -/
def TupH (H : Hp) (a : Addr) (xs : List V) : Prop := ∃ o : Obj, o.dict = none ∧ H a = some (.frz o (.tup xs))
/-- strings alone: the tuple may be asked for places; of all others a key may be made -/
def strsD (ds : List D) : Bool := ds.all fun d => match d with
    | .str _ => true
    | _ => false
def TupD (H : Hp) (a : Addr) (xs : List V) (ds : List D) : Prop := (strsD ds = true ∧ TupH H a xs) ∨ (strsD ds = false ∧ H a = some (.tup xs))
theorem TupD.sq {K : PySem.W.Frag} {H : Hp} {a : Addr} {xs : List V} {ds : List D} (h : TupD H a xs ds) : SqT K H a xs := by
  rcases h with ⟨_, o, _, h⟩ | ⟨_, h⟩
  · exact .inl (.inr ⟨o, h⟩)
  · exact .inl (.inl h)
theorem TupD.same {H H' : Hp} {a : Addr} {xs : List V} {ds : List D} (h : TupD H a xs ds) (e : Same H H') : TupD H' a xs ds := by
  rcases h with ⟨h0, o, h1, h⟩ | ⟨h0, h⟩
  · exact .inl ⟨h0, o, h1, e.nd h rfl⟩
  · exact .inr ⟨h0, e.nd h rfl⟩
/-- a new tuple, tracked the one way or the other -/
def mkT (H : Hp) (xs : List V) (Q : VK) : Prop := (∀ p, H p = none → Q (.ref p) (upd H p (.tup xs))) ∨ (∀ (p : Addr) (o : Obj), o.dict = none → H p = none → Q (.ref p) (upd H p (.frz o (.tup xs))))
/-- a key as data -/
def kD : Key → D
  | .inl i => .int i
  | .inr x => .str x
/-- a dict whose keys are tuples: each key with its address, in order; a thing of its one object -/
def entX (y : NestedKey × Addr × Value) : DictEntry := ⟨y.1.hash WW.w, .ref y.2.1, y.2.2⟩
abbrev XE := NestedKey × Addr × V
abbrev XEs : List XE → List (NestedKey × Addr × Value) → Prop := Paired fun p q => p.1 = q.1 ∧ p.2.1 = q.2.1 ∧ RelV p.2.2 q.2.2
def DXp (a : Addr) (xs : List XE) : Heap → Prop := fun h => (xs.length ≤ sizeLine ∧ ∀ x ∈ xs, x.1.depth ≤ 8) ∧ (a == sysModules) = false ∧ ∃ ys, XEs xs ys ∧ ∃ o es ep, h.get? a = some o ∧ o.ExactDict ∧ o.data = .dict es ep ∧ es.toList = ys.map entX ∧ (ys.map (·.1)).Nodup
def DXo (a : Addr) (xs : List XE) : HO := .ext (DXp a xs)
theorem rd_same {H H' : Hp} {a : Addr} {u : HO} (r : Rd H a u) (e : Same H H') : Rd H' a u := by
  rcases r with r | ⟨o, r⟩
  · rcases e _ _ r with q | ⟨_, q⟩
    · exact .inl q
    · exact .inr q
  · exact .inr ⟨o, e.nd r rfl⟩
mutual
/-- a value that stands for a tree of data -/
inductive DV (K : PySem.W.Frag) (H : Hp) : V → D → Prop
  | non : DV K H .non .none
  | bl (b : Bool) : DV K H (.bl b) (.bool b)
  | int (i : Int) : DV K H (.int i) (.int i)
  | str (x : Str) : DV K H (.str x) (.str x)
  | lst {a : Addr} {xs : List V} {ds : List D} : H a = some (.lst xs) → DVs K H xs ds → DV K H (.ref a) (.list ds)
  | tup {a : Addr} {xs : List V} {ds : List D} : TupD H a xs ds → DVs K H xs ds → DV K H (.ref a) (.tuple ds)
  | dK {a : Addr} {kvs : List (Key × V)} {es : List (D × D)} : Rd H a (.dK kvs) → es.map (·.1) = kvs.map (fun p => kD p.1) → DVs K H (kvs.map (·.2)) (es.map (·.2)) → DV K H (.ref a) (.dict es)
  | dX {a : Addr} {xs : List XE} {es : List (D × D)} : Rd H a (DXo a xs) → DKs K H xs es → DV K H (.ref a) (.dict es)
inductive DVs (K : PySem.W.Frag) (H : Hp) : List V → List D → Prop
  | nil : DVs K H [] []
  | cons {v : V} {vs : List V} {d : D} {ds : List D} : DV K H v d → DVs K H vs ds → DVs K H (v :: vs) (d :: ds)
inductive DKs (K : PySem.W.Frag) (H : Hp) : List XE → List (D × D) → Prop
  | nil : DKs K H [] []
  | cons {k : NestedKey} {a : Addr} {v : V} {d : D} {xs : List XE} {es : List (D × D)} : DV K H (.ref a) k.data → DV K H v d → DKs K H xs es → DKs K H ((k, a, v) :: xs) ((k.data, d) :: es)
end
mutual
theorem dp_mono {K : PySem.W.Frag} {H H' : Hp} (e : Same H H') : ∀ (v : V) (d : D), DV K H v d → DV K H' v d
  | _, _, .non => .non
  | _, _, .bl b => .bl b
  | _, _, .int i => .int i
  | _, _, .str x => .str x
  | _, _, .lst h1 h2 => .lst (e.nd h1 rfl) (dpAll_mono e _ _ h2)
  | _, _, .tup h1 h2 => .tup (h1.same e) (dpAll_mono e _ _ h2)
  | _, _, .dK h1 h2 h3 => .dK (rd_same h1 e) h2 (dpAll_mono e _ _ h3)
  | _, _, .dX h1 h2 => .dX (rd_same h1 e) (dks_mono e _ _ h2)
theorem dpAll_mono {K : PySem.W.Frag} {H H' : Hp} (e : Same H H') : ∀ (vs : List V) (ds : List D), DVs K H vs ds → DVs K H' vs ds
  | _, _, .nil => .nil
  | _, _, .cons h1 h2 => .cons (dp_mono e _ _ h1) (dpAll_mono e _ _ h2)
theorem dks_mono {K : PySem.W.Frag} {H H' : Hp} (e : Same H H') : ∀ (xs : List XE) (es : List (D × D)), DKs K H xs es → DKs K H' xs es
  | _, _, .nil => .nil
  | _, _, .cons h1 h2 h3 => .cons (dp_mono e _ _ h1) (dp_mono e _ _ h2) (dks_mono e _ _ h3)
end
mutual
theorem dp_of {K : PySem.W.Frag} {H : Hp} : ∀ (v : V) (d : D), DV K H v d → d.hasDict = false → Dp K H v d
  | _, _, .non, _ => .non
  | _, _, .bl b, _ => .bl b
  | _, _, .int i, _ => .int i
  | _, _, .str x, _ => .str x
  | _, _, .lst h1 h2, h => .lst (SqL.of h1) (dpAll_of _ _ h2 (by simpa [PyData.hasDict] using h))
  | _, _, .tup h1 h2, h => .tup h1.sq (dpAll_of _ _ h2 (by simpa [PyData.hasDict] using h))
  | _, _, .dK h1 h2 h3, h => by simp [PyData.hasDict] at h
  | _, _, .dX h1 h2, h => by simp [PyData.hasDict] at h
theorem dpAll_of {K : PySem.W.Frag} {H : Hp} : ∀ (vs : List V) (ds : List D), DVs K H vs ds → PyData.hasDictAll ds = false → DpAll K H vs ds
  | _, _, .nil, _ => .nil
  | _, _, .cons h1 h2, h => by
    simp only [PyData.hasDictAll, Bool.or_eq_false_iff] at h
    exact .cons (dp_of _ _ h1 h.1) (dpAll_of _ _ h2 h.2)
end
section
variable {K : PySem.W.Frag} {H : Hp}
theorem dpAll_len : ∀ {vs : List V} {ds : List D}, DVs K H vs ds → vs.length = ds.length
  | _, _, .nil => rfl
  | _, _, .cons _ t => by simp [dpAll_len t]
theorem dpAll_get : ∀ {vs : List V} {ds : List D} {i : Nat} {d : D}, DVs K H vs ds → ds[i]? = some d → ∃ v, vs[i]? = some v ∧ DV K H v d
  | _, _, _, _, .nil, e => by simp at e
  | _, _, 0, _, .cons r _, e => by simp at e; subst e; exact ⟨_, rfl, r⟩
  | _, _, i + 1, d, .cons _ t, e => by
    obtain ⟨u, h1, h2⟩ := dpAll_get (i := i) (d := d) t (by simpa using e)
    exact ⟨u, by simpa using h1, h2⟩
theorem dpAll_get' : ∀ {vs : List V} {ds : List D} {i : Nat} {v : V}, DVs K H vs ds → vs[i]? = some v → ∃ d, ds[i]? = some d ∧ DV K H v d
  | _, _, _, _, .nil, e => by simp at e
  | _, _, 0, _, .cons r _, e => by simp at e; subst e; exact ⟨_, rfl, r⟩
  | _, _, i + 1, d, .cons _ t, e => by
    obtain ⟨u, h1, h2⟩ := dpAll_get' (i := i) (v := d) t (by simpa using e)
    exact ⟨u, by simpa using h1, h2⟩
theorem dpAll_append : ∀ {vs us : List V} {ds es : List D}, DVs K H vs ds → DVs K H us es → DVs K H (vs ++ us) (ds ++ es)
  | _, _, _, _, .nil, s => s
  | _, _, _, _, .cons r t, s => .cons r (dpAll_append t s)
theorem dpAll_take : ∀ {vs : List V} {ds : List D} (n : Nat), DVs K H vs ds → DVs K H (vs.take n) (ds.take n)
  | _, _, 0, _ => by simpa using DVs.nil
  | _, _, _ + 1, .nil => .nil
  | _, _, n + 1, .cons r t => .cons r (dpAll_take n t)
theorem dpAll_drop : ∀ {vs : List V} {ds : List D} (n : Nat), DVs K H vs ds → DVs K H (vs.drop n) (ds.drop n)
  | _, _, 0, h => h
  | _, _, _ + 1, .nil => .nil
  | _, _, n + 1, .cons _ t => dpAll_drop n t
theorem dpAll_set {v : V} {d : D} (r : DV K H v d) : ∀ {vs : List V} {ds : List D} (i : Nat), DVs K H vs ds → DVs K H (vs.set i v) (ds.set i d)
  | _, _, _, .nil => .nil
  | _, _, 0, .cons _ t => .cons r t
  | _, _, i + 1, .cons q t => .cons q (dpAll_set r i t)
theorem dpAll_rev : ∀ {vs : List V} {ds : List D}, DVs K H vs ds → DVs K H vs.reverse ds.reverse
  | _, _, .nil => .nil
  | _, _, .cons r t => by
    rw [List.reverse_cons, List.reverse_cons]
    exact dpAll_append (dpAll_rev t) (.cons r .nil)
theorem dpAll_ints : ∀ {vs : List V} {ns : List Int}, DVs K H vs (ns.map PyData.int) → vs = ns.map V.int
  | _, [], h => by cases h; rfl
  | _, n :: ns, h => by
    cases h with
    | cons h1 h2 => cases h1; rw [dpAll_ints h2]; rfl
theorem dpAll_strs : ∀ {vs : List V} {ns : List Str}, DVs K H vs (ns.map PyData.str) → vs = ns.map V.str
  | _, [], h => by cases h; rfl
  | _, n :: ns, h => by
    cases h with
    | cons h1 h2 => cases h1; rw [dpAll_strs h2]; rfl
end

/-! ### states -/
inductive SV where
  | dat (d : D) | own (i : Nat) | ro (ns : List Int) | rng (lo hi : Int) | exn (a dx : Addr) (fs : List (Str × D)) | un
abbrev Mem := List (Option D)
structure S where
  sl : List SV
  mem : Mem
def Live (ad : List Addr) (m : Mem) (a : Addr) : Prop := ∃ (i : Nat) (d : D), m[i]? = some (some d) ∧ ad[i]? = some a
def ZZ (Zc : Addr → Prop) (ad : List Addr) (m : Mem) : Addr → Prop := fun a => Zc a ∨ Live ad m a
noncomputable abbrev FZ (Zc : Addr → Prop) (ad : List Addr) (m : Mem) (H : Hp) : Hp := Fz (ZZ Zc ad m) H

/-- an exception's fields, told -/
def XdR (K : PySem.W.Frag) (H : Hp) (dx : Addr) (fs : List (Str × D)) : Prop := ∃ fv : List (Str × V), H dx = some (.xd fv) ∧ fv.map (·.1) = fs.map (·.1) ∧ DVs K H (fv.map (·.2)) (fs.map (·.2))
theorem XdR.same {K : PySem.W.Frag} {H H' : Hp} {dx : Addr} {fs : List (Str × D)} (h : XdR K H dx fs) (e : Same H H') : XdR K H' dx fs := by
  obtain ⟨fv, h1, h2, h3⟩ := h
  exact ⟨fv, e.nd h1 rfl, h2, dpAll_mono e _ _ h3⟩
def VR (K : PySem.W.Frag) (Zc : Addr → Prop) (ad : List Addr) (m : Mem) (H : Hp) (v : V) : SV → Prop
  | .dat d => DV K (FZ Zc ad m H) v d
  | .own i => i < m.length ∧ ∃ a, ad[i]? = some a ∧ v = .ref a
  | .ro ns => ∃ a, v = .ref a ∧ SqL K (FZ Zc ad m H) a (ns.map V.int)
  | .rng lo hi => ∃ a, v = .ref a ∧ FZ Zc ad m H a = some (.rng lo hi)
  | .exn a dx fs => v = .ref a ∧ XdR K (FZ Zc ad m H) dx fs
  | .un => False
def OR (K : PySem.W.Frag) (Zc : Addr → Prop) (ad : List Addr) (m : Mem) (H : Hp) (o : Option V) (sv : SV) : Prop :=
  sv = .un ∨ ∃ v, o = some v ∧ VR K Zc ad m H v sv
/-- what stands in a cell -/
inductive Cell (K : PySem.W.Frag) (H : Hp) (a : Addr) : HO → D → Prop
  | lst {vs : List V} {ds : List D} : DVs K H vs ds → Cell K H a (.lst vs) (.list ds)
  | dK {kvs : List (Key × V)} {es : List (D × D)} : es.map (·.1) = kvs.map (fun p => kD p.1) → DVs K H (kvs.map (·.2)) (es.map (·.2)) → Cell K H a (.dK kvs) (.dict es)
  | dX {xs : List XE} {es : List (D × D)} : DKs K H xs es → Cell K H a (DXo a xs) (.dict es)
theorem Cell.mono {K : PySem.W.Frag} {H H' : Hp} {o : HO} {d : D} {a : Addr} (h : Cell K H a o d) (e : Same H H') : Cell K H' a o d := by
  cases h with
  | lst h => exact .lst (dpAll_mono e _ _ h)
  | dK h1 h2 => exact .dK h1 (dpAll_mono e _ _ h2)
  | dX h1 => exact .dX (dks_mono e _ _ h1)
theorem Cell.dv {K : PySem.W.Frag} {H : Hp} {o : HO} {d : D} {a : Addr} (h : Cell K H a o d) (e : H a = some o) : DV K H (.ref a) d := by
  cases h with
  | lst h => exact .lst e h
  | dK h1 h2 => exact .dK (.inl e) h1 h2
  | dX h1 => exact .dX (.inl e) h1
structure MR (K : PySem.W.Frag) (Zc : Addr → Prop) (ad : List Addr) (H : Hp) (m : Mem) : Prop where
  cell : ∀ (i : Nat) (d : D), m[i]? = some (some d) → ∃ a o, ad[i]? = some a ∧ H a = some o ∧ Cell K (FZ Zc ad m H) a o d
  inj : ∀ (i j : Nat) (a : Addr) (ds es : D), m[i]? = some (some ds) → m[j]? = some (some es) → ad[i]? = some a → ad[j]? = some a → i = j
  zd : ∀ a, Zc a → ¬ Live ad m a
  zt : ∀ a, Zc a → H a ≠ none
  adl : m.length ≤ ad.length
structure SR (K : PySem.W.Frag) (Zc : Addr → Prop) (ad : List Addr) (H : Hp) (σ : L2.St) (s : S) : Prop where
  len : σ.length = s.sl.length
  slot : ∀ (i : Nat) (sv : SV), s.sl[i]? = some sv → ∃ o, σ[i]? = some o ∧ OR K Zc ad s.mem H o sv
  mr : MR K Zc ad H s.mem
structure Frm (Zc : Addr → Prop) (n : Nat) (ad : List Addr) (m : Mem) (H : Hp) (ad' : List Addr) (m' : Mem) (H' : Hp) : Prop where
  keep : ∀ a o, H a = some o → ¬ Live ad m a → H' a = some o ∨ (¬ Zc a ∧ Dc o = true ∧ ∃ od, H' a = some (.frz od o))
  new : ∀ a, Live ad' m' a → Live ad m a ∨ H a = none
  pre : ∀ i, i < n → ad'[i]? = ad[i]?
  le : n ≤ m'.length

section
variable {K : PySem.W.Frag} {Zc : Addr → Prop} {ad ad' ad2 : List Addr} {H H' H2 : Hp} {m m' m2 : Mem} {σ σ' : L2.St} {s s' : S} {n : Nat}
theorem Frm.refl (h : n ≤ m.length) : Frm Zc n ad m H ad m H := ⟨fun _ _ h _ => .inl h, fun _ h => .inl h, fun _ _ => rfl, h⟩
theorem Frm.trans {k : Nat} (a : Frm Zc n ad m H ad' m' H') (b : Frm Zc k ad' m' H' ad2 m2 H2) (hk : n ≤ k) : Frm Zc n ad m H ad2 m2 H2 := by
  refine NoI.keep (fun _ wNoI => ?_) ?_
  simp only [↓ NoI.wrOf wNoI (by
  clear wNoI
  refine ⟨fun c o h hl => ?_, fun c h => ?_, fun i hi => ?_, Nat.le_trans hk b.le⟩
  · have nl : ¬ Live ad' m' c := fun h' => by
      rcases a.new c h' with q | q
      · exact hl q
      · rw [q] at h; cases h
    rcases a.keep c o h hl with q | ⟨q1, q2, od, q3⟩
    · exact b.keep c o q nl
    · rcases b.keep c _ q3 nl with r | ⟨_, r, _⟩
      · exact .inr ⟨q1, q2, od, r⟩
      · cases r
  · rcases b.new c h with q | q
    · exact a.new c q
    · by_cases hl : Live ad m c
      · exact .inl hl
      · right
        cases e : H c with
        | none => rfl
        | some o => rcases a.keep c o e hl with r | ⟨_, _, od, r⟩ <;> (rw [r] at q; cases q)
  · rw [b.pre i (Nat.lt_of_lt_of_le hi hk), a.pre i hi]
  )]
  intro _ hNoI
  simpa using (fun (_ : NoI.Sg) => hNoI) [5]
theorem Frm.less {k : Nat} (a : Frm Zc n ad m H ad' m' H') (hk : k ≤ n) : Frm Zc k ad m H ad' m' H' := ⟨a.keep, a.new, fun i hi => a.pre i (Nat.lt_of_lt_of_le hi hk), Nat.le_trans hk a.le⟩
theorem Frm.same (a : Frm Zc n ad m H ad' m' H') : Same (FZ Zc ad m H) (FZ Zc ad' m' H') := fun c o h => by
  obtain ⟨h1, h2⟩ := Fz_inv h
  have nz : ¬ ZZ Zc ad' m' c := fun q => by
    rcases q with q | q
    · exact h1 (.inl q)
    · rcases a.new c q with r | r
      · exact h1 (.inr r)
      · rw [r] at h2; cases h2
  rcases a.keep c o h2 fun q => h1 (.inr q) with q | ⟨_, q, od, r⟩
  · exact .inl (Fz_of nz q)
  · exact .inr ⟨q, od, Fz_of nz r⟩
theorem VR.frm {v : V} {sv : SV} (h : VR K Zc ad m H v sv) (a : Frm Zc m.length ad m H ad' m' H') : VR K Zc ad' m' H' v sv := by
  refine NoI.keep (fun _ wNoI => ?_) ?_
  simp only [↓ NoI.wrOf wNoI (by
  clear wNoI
  cases sv with
  | dat d => exact dp_mono a.same _ _ h
  | own i =>
    obtain ⟨h1, b, h2, h3⟩ := h
    exact ⟨Nat.lt_of_lt_of_le h1 a.le, b, by rw [a.pre i h1, h2], h3⟩
  | ro ns =>
    obtain ⟨b, h1, h2⟩ := h
    exact ⟨b, h1, a.same.seq h2⟩
  | rng lo hi =>
    obtain ⟨b, h1, h2⟩ := h
    exact ⟨b, h1, a.same.nd h2 rfl⟩
  | exn x dx fs => exact ⟨h.1, h.2.same a.same⟩
  | un => exact h
  )]
  intro _ hNoI
  simpa using (fun (_ : NoI.Sg) => hNoI) [5]
theorem OR.frm {o : Option V} {sv : SV} (h : OR K Zc ad m H o sv) (a : Frm Zc m.length ad m H ad' m' H') : OR K Zc ad' m' H' o sv :=
  h.imp id fun ⟨v, e, q⟩ => ⟨v, e, q.frm a⟩
theorem MR.fresh (h : MR K Zc ad H m) {p : Addr} (hp : H p = none) : ¬ ZZ Zc ad m p := by
  rintro (q | ⟨i, ds, h1, h2⟩)
  · exact h.zt p q hp
  · obtain ⟨a, vs, e1, e2, _⟩ := h.cell i ds h1
    rw [h2] at e1; cases e1
    rw [e2] at hp; cases hp
/-- a new object that is not changed any more -/
theorem Frm.newT {p : Addr} {o : HO} (hp : H p = none) : Frm Zc m.length ad m H ad m (upd H p o) :=
  ⟨fun a x e _ => .inl (by rw [upd_ne (ne_of_none e hp)]; exact e), fun _ h => .inl h, fun _ _ => rfl, Nat.le_refl _⟩
theorem MR.newT (h : MR K Zc ad H m) {p : Addr} {o : HO} (hp : H p = none) : MR K Zc ad (upd H p o) m := by
  refine NoI.keep (fun _ wNoI => ?_) ?_
  simp only [↓ NoI.wrOf wNoI (by
  clear wNoI
  have F : Frm Zc m.length ad m H ad m (upd H p o) := Frm.newT hp
  refine ⟨fun i ds e => ?_, h.inj, h.zd, fun a q e => ?_, h.adl⟩
  · obtain ⟨a, vs, e1, e2, e3⟩ := h.cell i ds e
    exact ⟨a, vs, e1, by rw [upd_ne (ne_of_none e2 hp)]; exact e2, e3.mono F.same⟩
  · have := h.zt a q
    unfold upd at e
    split at e
    · cases e
    · exact this e
  )]
  intro _ hNoI
  simpa using (fun (_ : NoI.Sg) => hNoI) [5]
theorem SR.newT (h : SR K Zc ad H σ s) {p : Addr} {o : HO} (hp : H p = none) : SR K Zc ad (upd H p o) σ s :=
  ⟨h.len, fun i sv e => by
    obtain ⟨x, e1, e2⟩ := h.slot i sv e
    exact ⟨x, e1, e2.frm (Frm.newT hp)⟩, h.mr.newT hp⟩
theorem MR.newT_at (h : MR K Zc ad H m) {p : Addr} {o : HO} (hp : H p = none) : FZ Zc ad m (upd H p o) p = some o := Fz_of (h.fresh hp) upd_same

/-! a new object in a cell of its own -/
def adN (ad : List Addr) (m : Mem) (p : Addr) : List Addr := ad.take m.length ++ [p]
theorem adN_lt (hl : m.length ≤ ad.length) {p : Addr} {i : Nat} (h : i < m.length) : (adN ad m p)[i]? = ad[i]? := by
  unfold adN
  rw [List.getElem?_append_left (by rw [List.length_take]; omega), List.getElem?_take, if_pos h]
theorem adN_at (hl : m.length ≤ ad.length) {p : Addr} : (adN ad m p)[m.length]? = some p := by
  unfold adN
  rw [List.getElem?_append_right (by rw [List.length_take]; omega), List.length_take, Nat.min_eq_left hl, Nat.sub_self]
  rfl

theorem live_adN (hl : m.length ≤ ad.length) {p : Addr} {ds : D} {a : Addr} : Live (adN ad m p) (m ++ [some ds]) a ↔ Live ad m a ∨ a = p := by
  refine NoI.keep (fun _ wNoI => ?_) ?_
  simp only [↓ NoI.wrOf wNoI (by
  clear wNoI
  constructor
  · rintro ⟨i, es, h1, h2⟩
    by_cases hi : i < m.length
    · rw [List.getElem?_append_left hi] at h1
      rw [adN_lt hl hi] at h2
      exact .inl ⟨i, es, h1, h2⟩
    · have hj : i = m.length := by
        have := (List.getElem?_eq_some_iff.mp h1).1
        rw [List.length_append] at this
        simp at this
        omega
      subst hj
      rw [adN_at hl] at h2
      cases h2
      exact .inr rfl
  · rintro (⟨i, es, h1, h2⟩ | rfl)
    · have hi := (List.getElem?_eq_some_iff.mp h1).1
      exact ⟨i, es, by rw [List.getElem?_append_left hi]; exact h1, by rw [adN_lt hl hi]; exact h2⟩
    · exact ⟨m.length, ds, by simp, adN_at hl⟩
  )]
  intro _ hNoI
  simpa using (fun (_ : NoI.Sg) => hNoI) [5]
theorem Frm.newO (h : MR K Zc ad H m) {p : Addr} {o : HO} {ds : D} (hp : H p = none) : Frm Zc m.length ad m H (adN ad m p) (m ++ [some ds]) (upd H p o) := by
  refine NoI.keep (fun _ wNoI => ?_) ?_
  simp only [↓ NoI.wrOf wNoI (by
  clear wNoI
  refine ⟨fun a x e _ => .inl (by rw [upd_ne (ne_of_none e hp)]; exact e), fun a q => ?_, fun i hi => adN_lt h.adl hi, by simp⟩
  rcases (live_adN h.adl).mp q with q | rfl
  · exact .inl q
  · exact .inr hp
  )]
  intro _ hNoI
  simpa using (fun (_ : NoI.Sg) => hNoI) [5]
theorem MR.newO (h : MR K Zc ad H m) {p : Addr} {u : HO} {ds : D} (hp : H p = none) (hv : Cell K (FZ Zc ad m H) p u ds) : MR K Zc (adN ad m p) (upd H p u) (m ++ [some ds]) := by
  refine NoI.keep (fun _ wNoI => ?_) ?_
  simp only [↓ NoI.wrOf wNoI (by
  clear wNoI
  have F : Frm Zc m.length ad m H (adN ad m p) (m ++ [some ds]) (upd H p u) := Frm.newO h hp
  refine ⟨fun i es e => ?_, fun i j a es fs e1 e2 a1 a2 => ?_, fun a q r => ?_, fun a q e => ?_, ?_⟩
  · by_cases hi : i < m.length
    · rw [List.getElem?_append_left hi] at e
      obtain ⟨a, us, e1, e2, e3⟩ := h.cell i es e
      exact ⟨a, us, by rw [adN_lt h.adl hi]; exact e1, by rw [upd_ne (ne_of_none e2 hp)]; exact e2, e3.mono F.same⟩
    · have hj : i = m.length := by
        have := (List.getElem?_eq_some_iff.mp e).1
        rw [List.length_append] at this
        simp at this
        omega
      subst hj
      simp at e
      subst e
      exact ⟨p, u, adN_at h.adl, upd_same, hv.mono F.same⟩
  · have old : ∀ {i : Nat} {gs : D}, (m ++ [some ds])[i]? = some (some gs) → (adN ad m p)[i]? = some a → (i < m.length ∧ m[i]? = some (some gs) ∧ ad[i]? = some a ∧ a ≠ p) ∨ (i = m.length ∧ a = p) := by
      intro i gs e1 e2
      by_cases hi : i < m.length
      · rw [List.getElem?_append_left hi] at e1
        rw [adN_lt h.adl hi] at e2
        obtain ⟨b, us, q1, q2, _⟩ := h.cell i gs e1
        rw [e2] at q1; cases q1
        exact .inl ⟨hi, e1, e2, ne_of_none q2 hp⟩
      · have hj : i = m.length := by
          have := (List.getElem?_eq_some_iff.mp e1).1
          rw [List.length_append] at this
          simp at this
          omega
        subst hj
        rw [adN_at h.adl] at e2
        cases e2
        exact .inr ⟨rfl, rfl⟩
    rcases old e1 a1 with ⟨_, q1, q2, q3⟩ | ⟨r1, r2⟩ <;> rcases old e2 a2 with ⟨_, t1, t2, t3⟩ | ⟨u1, u2⟩
    · exact h.inj i j a es fs q1 t1 q2 t2
    · exact absurd u2 q3
    · exact absurd r2 t3
    · rw [r1, u1]
  · rcases (live_adN h.adl).mp r with r | rfl
    · exact h.zd a q r
    · exact h.zt _ q hp
  · have := h.zt a q
    unfold upd at e
    split at e
    · cases e
    · exact this e
  · unfold adN
    simp [Nat.min_eq_left h.adl]
  )]
  intro _ hNoI
  simpa using (fun (_ : NoI.Sg) => hNoI) [5]
theorem SR.newO (h : SR K Zc ad H σ s) {p : Addr} {u : HO} {ds : D} (hp : H p = none) (hv : Cell K (FZ Zc ad s.mem H) p u ds) : SR K Zc (adN ad s.mem p) (upd H p u) σ ⟨s.sl, s.mem ++ [some ds]⟩ :=
  ⟨h.len, fun i sv e => by
    obtain ⟨x, e1, e2⟩ := h.slot i sv e
    exact ⟨x, e1, e2.frm (Frm.newO h.mr hp)⟩, h.mr.newO hp hv⟩
theorem VR.newO (h : MR K Zc ad H m) {p : Addr} {o : HO} {ds : D} : VR K Zc (adN ad m p) (m ++ [some ds]) (upd H p o) (.ref p) (.own m.length) :=
  ⟨by simp, p, adN_at h.adl, rfl⟩

/-! a cell is given up: what it holds will not be changed any more -/
theorem get_set_none {i j : Nat} {ds : D} : (m.set i none)[j]? = some (some ds) ↔ j ≠ i ∧ m[j]? = some (some ds) := by
  refine NoI.keep (fun _ wNoI => ?_) ?_
  simp only [↓ NoI.wrOf wNoI (by
  clear wNoI
  rw [List.getElem?_set]
  by_cases e : i = j
  · subst e
    rw [if_pos rfl]
    constructor
    · intro h; split at h <;> cases h
    · intro h; exact absurd rfl h.1
  · rw [if_neg e]
    exact ⟨fun h => ⟨fun q => e q.symm, h⟩, fun h => h.2⟩
  )]
  intro _ hNoI
  simpa using (fun (_ : NoI.Sg) => hNoI) [5]
theorem live_none {i : Nat} {a : Addr} (h : Live ad (m.set i none) a) : Live ad m a := by
  obtain ⟨j, ds, h1, h2⟩ := h
  exact ⟨j, ds, (get_set_none.mp h1).2, h2⟩
theorem Frm.drop {i : Nat} : Frm Zc m.length ad m H ad (m.set i none) H := ⟨fun _ _ h _ => .inl h, fun _ h => .inl (live_none h), fun _ _ => rfl, by simp⟩
theorem MR.drop {i : Nat} (h : MR K Zc ad H m) : MR K Zc ad H (m.set i none) := by
  refine NoI.keep (fun _ wNoI => ?_) ?_
  simp only [↓ NoI.wrOf wNoI (by
  clear wNoI
  refine ⟨fun j ds e => ?_, fun j k a ds es e1 e2 a1 a2 => h.inj j k a ds es (get_set_none.mp e1).2 (get_set_none.mp e2).2 a1 a2, fun a q r => h.zd a q (live_none r), h.zt, by rw [List.length_set]; exact h.adl⟩
  obtain ⟨a, vs, q1, q2, q3⟩ := h.cell j ds (get_set_none.mp e).2
  exact ⟨a, vs, q1, q2, q3.mono (Frm.drop (i := i)).same⟩
  )]
  intro _ hNoI
  simpa using (fun (_ : NoI.Sg) => hNoI) [5]
theorem MR.drop_at {i : Nat} {ds : D} {a : Addr} (h : MR K Zc ad H m) (e : m[i]? = some (some ds)) (ha : ad[i]? = some a) : DV K (FZ Zc ad (m.set i none) H) (.ref a) ds := by
  refine NoI.keep (fun _ wNoI => ?_) ?_
  simp only [↓ NoI.wrOf wNoI (by
  clear wNoI
  obtain ⟨b, vs, q1, q2, q3⟩ := h.cell i ds e
  rw [ha] at q1; cases q1
  refine (q3.mono (Frm.drop (i := i)).same).dv (Fz_of (fun q => ?_) q2)
  rcases q with q | ⟨j, es, r1, r2⟩
  · exact h.zd a q ⟨i, ds, e, ha⟩
  · obtain ⟨t1, t2⟩ := get_set_none.mp r1
    exact t1 (h.inj j i a es ds t2 e r2 ha)
  )]
  intro _ hNoI
  simpa using (fun (_ : NoI.Sg) => hNoI) [5]
end
def SV.fz (i : Nat) (ds : D) : SV → SV
  | .own j => match Nat.beq j i with
    | true => .dat ds
    | false => .own j
  | sv => sv
def S.fz (s : S) (i : Nat) (ds : D) : S := ⟨s.sl.map (SV.fz i ds), s.mem.set i none⟩
section
variable {K : PySem.W.Frag} {Zc : Addr → Prop} {ad ad' ad2 : List Addr} {H H' H2 : Hp} {m m' m2 : Mem} {σ σ' : L2.St} {s s' : S} {n : Nat}
theorem VR.fz {i : Nat} {ds : D} (h : MR K Zc ad H m) (e : m[i]? = some (some ds)) {v : V} {sv : SV} (r : VR K Zc ad m H v sv) : VR K Zc ad (m.set i none) H v (sv.fz i ds) := by
  refine NoI.keep (fun _ wNoI => ?_) ?_
  simp only [↓ NoI.wrOf wNoI (by
  clear wNoI
  cases sv with
  | dat d => exact VR.frm (sv := .dat d) r Frm.drop
  | own j =>
    unfold SV.fz
    obtain ⟨h1, a, h2, rfl⟩ := r
    by_cases q : Nat.beq j i = true
    · have : j = i := Nat.eq_of_beq_eq_true q
      subst this
      simp only [q]
      exact h.drop_at e h2
    · have : Nat.beq j i = false := by
        cases z : Nat.beq j i with
        | true => exact absurd z q
        | false => rfl
      simp only [this]
      exact ⟨by simpa using h1, a, h2, rfl⟩
  | ro ns => exact VR.frm (sv := .ro ns) r Frm.drop
  | rng lo hi => exact VR.frm (sv := .rng lo hi) r Frm.drop
  | exn x dx fs => exact VR.frm (sv := .exn x dx fs) r Frm.drop
  | un => exact r
  )]
  intro _ hNoI
  simpa using (fun (_ : NoI.Sg) => hNoI) [5]
theorem SR.fz {i : Nat} {ds : D} (h : SR K Zc ad H σ s) (e : s.mem[i]? = some (some ds)) : SR K Zc ad H σ (s.fz i ds) := by
  refine NoI.keep (fun _ wNoI => ?_) ?_
  simp only [↓ NoI.wrOf wNoI (by
  clear wNoI
  refine ⟨by simpa [S.fz] using h.len, fun j sv q => ?_, h.mr.drop⟩
  simp only [S.fz, List.getElem?_map] at q
  cases q0 : s.sl[j]? with
  | none => rw [q0] at q; cases q
  | some sv0 =>
    rw [q0] at q
    simp only [Option.map_some, Option.some.injEq] at q
    subst q
    obtain ⟨o, r1, r2⟩ := h.slot j sv0 q0
    refine ⟨o, r1, ?_⟩
    rcases r2 with rfl | ⟨v, r3, r4⟩
    · exact .inl rfl
    · exact .inr ⟨v, r3, VR.fz h.mr e r4⟩
  )]
  intro _ hNoI
  simpa using (fun (_ : NoI.Sg) => hNoI) [5]
structure Wk (s s' : S) : Prop where
  len : s'.sl.length = s.sl.length
  sl : ∀ (i : Nat) (sv : SV), s'.sl[i]? = some sv → sv = .un ∨ (s.sl[i]? = some sv ∧ ∀ j, sv = .own j → j < s'.mem.length)
  le : s'.mem.length ≤ s.mem.length
  mem : ∀ (i : Nat) (ds : D), s'.mem[i]? = some (some ds) → s.mem[i]? = some (some ds)
theorem Wk.live (w : Wk s s') {a : Addr} (h : Live ad s'.mem a) : Live ad s.mem a := by
  obtain ⟨i, ds, h1, h2⟩ := h
  exact ⟨i, ds, w.mem i ds h1, h2⟩
theorem Wk.frm (w : Wk s s') (hn : n ≤ s'.mem.length) : Frm Zc n ad s.mem H ad s'.mem H := ⟨fun _ _ h _ => .inl h, fun _ h => .inl (w.live h), fun _ _ => rfl, hn⟩
theorem SR.wk (h : SR K Zc ad H σ s) (w : Wk s s') : SR K Zc ad H σ s' := by
  refine NoI.keep (fun _ wNoI => ?_) ?_
  simp only [↓ NoI.wrOf wNoI (by
  clear wNoI
  have F : Frm Zc s'.mem.length ad s.mem H ad s'.mem H := w.frm (Nat.le_refl _)
  refine ⟨by rw [w.len]; exact h.len, fun i sv e => ?_, ⟨fun i ds e => ?_, fun i j a ds es e1 e2 a1 a2 => h.mr.inj i j a ds es (w.mem i ds e1) (w.mem j es e2) a1 a2, fun a q r => h.mr.zd a q (w.live r), h.mr.zt, Nat.le_trans w.le h.mr.adl⟩⟩
  · rcases w.sl i sv e with rfl | ⟨q1, q2⟩
    · have hi : i < σ.length := by rw [h.len, ← w.len]; exact (List.getElem?_eq_some_iff.mp e).1
      exact ⟨σ[i], List.getElem?_eq_getElem hi, .inl rfl⟩
    · obtain ⟨o, r1, r2⟩ := h.slot i sv q1
      refine ⟨o, r1, ?_⟩
      rcases r2 with rfl | ⟨v, r3, r4⟩
      · exact .inl rfl
      · refine .inr ⟨v, r3, ?_⟩
        cases sv with
        | dat d => exact dp_mono F.same _ _ r4
        | own k => obtain ⟨r4, r5⟩ := r4; exact ⟨q2 k rfl, r5⟩
        | ro ns => obtain ⟨b, r5, r6⟩ := r4; exact ⟨b, r5, F.same.seq r6⟩
        | rng lo hi => obtain ⟨b, r5, r6⟩ := r4; exact ⟨b, r5, F.same.nd r6 rfl⟩
        | exn x dx fs => exact ⟨r4.1, r4.2.same F.same⟩
        | un => exact r4
  · obtain ⟨a, vs, q1, q2, q3⟩ := h.mr.cell i ds (w.mem i ds e)
    exact ⟨a, vs, q1, q2, q3.mono F.same⟩
  )]
  intro _ hNoI
  simpa using (fun (_ : NoI.Sg) => hNoI) [5]
/-- a cell's list is changed -/
theorem live_set {i : Nat} {ds es : D} (e : m[i]? = some (some ds)) {a : Addr} : Live ad (m.set i (some es)) a ↔ Live ad m a := by
  refine NoI.keep (fun _ wNoI => ?_) ?_
  simp only [↓ NoI.wrOf wNoI (by
  clear wNoI
  have hi := (List.getElem?_eq_some_iff.mp e).1
  constructor
  · rintro ⟨j, fs, h1, h2⟩
    by_cases q : i = j
    · subst q; exact ⟨i, ds, e, h2⟩
    · rw [List.getElem?_set_ne q] at h1; exact ⟨j, fs, h1, h2⟩
  · rintro ⟨j, fs, h1, h2⟩
    by_cases q : i = j
    · subst q; exact ⟨i, es, by rw [List.getElem?_set_self hi], h2⟩
    · exact ⟨j, fs, by rw [List.getElem?_set_ne q]; exact h1, h2⟩
  )]
  intro _ hNoI
  simpa using (fun (_ : NoI.Sg) => hNoI) [5]
theorem fz_set {i : Nat} {ds es : D} {a : Addr} {o : HO} (e : m[i]? = some (some ds)) (ha : ad[i]? = some a) : FZ Zc ad (m.set i (some es)) (upd H a o) = FZ Zc ad m H := by
  refine NoI.keep (fun _ wNoI => ?_) ?_
  simp only [↓ NoI.wrOf wNoI (by
  clear wNoI
  funext b
  have hz : ∀ b, ZZ Zc ad (m.set i (some es)) b ↔ ZZ Zc ad m b := fun b => or_congr Iff.rfl (live_set e)
  have la : ZZ Zc ad m a := .inr ⟨i, ds, e, ha⟩
  unfold FZ Fz
  by_cases q : ZZ Zc ad m b
  · rw [if_pos q, if_pos ((hz b).mpr q)]
  · rw [if_neg q, if_neg fun z => q ((hz b).mp z), upd_ne (show b ≠ a from fun z => q (by rw [z]; exact la))]
  )]
  intro _ hNoI
  simpa using (fun (_ : NoI.Sg) => hNoI) [5]
theorem MR.put {i : Nat} {ds es : D} {a : Addr} {u : HO} (h : MR K Zc ad H m) (e : m[i]? = some (some ds)) (ha : ad[i]? = some a) (hv : Cell K (FZ Zc ad m H) a u es) : MR K Zc ad (upd H a u) (m.set i (some es)) := by
  refine NoI.keep (fun _ wNoI => ?_) ?_
  simp only [↓ NoI.wrOf wNoI (by
  clear wNoI
  have hi := (List.getElem?_eq_some_iff.mp e).1
  have un : ∀ {j : Nat} {fs : D}, (m.set i (some es))[j]? = some (some fs) → ∃ gs, m[j]? = some (some gs) := fun {j fs} q => by
    by_cases z : i = j
    · subst z; exact ⟨ds, e⟩
    · rw [List.getElem?_set_ne z] at q; exact ⟨fs, q⟩
  refine ⟨fun j fs q => ?_, fun j k b fs gs e1 e2 a1 a2 => ?_, fun b q r => h.zd b q ((live_set e).mp r), fun b q z => ?_, by rw [List.length_set]; exact h.adl⟩
  · rw [fz_set e ha]
    by_cases z : i = j
    · subst z
      rw [List.getElem?_set_self hi] at q
      simp at q
      subst q
      exact ⟨a, u, ha, upd_same, hv⟩
    · rw [List.getElem?_set_ne z] at q
      obtain ⟨b, us, q1, q2, q3⟩ := h.cell j fs q
      refine ⟨b, us, q1, ?_, q3⟩
      rw [upd_ne (show b ≠ a from fun y => z (h.inj i j a ds fs e q ha (by rw [← y]; exact q1)))]
      exact q2
  · obtain ⟨x1, y1⟩ := un e1
    obtain ⟨x2, y2⟩ := un e2
    exact h.inj j k b x1 x2 y1 y2 a1 a2
  · have := h.zt b q
    unfold upd at z
    split at z
    · cases z
    · exact this z
  )]
  intro _ hNoI
  simpa using (fun (_ : NoI.Sg) => hNoI) [5]
theorem Frm.put {i : Nat} {ds es : D} {a : Addr} {o : HO} (e : m[i]? = some (some ds)) (ha : ad[i]? = some a) : Frm Zc m.length ad m H ad (m.set i (some es)) (upd H a o) :=
  ⟨fun b x q r => .inl (by rw [upd_ne (show b ≠ a from fun z => r (by rw [z]; exact ⟨i, ds, e, ha⟩))]; exact q), fun b q => .inl ((live_set e).mp q), fun _ _ => rfl, by simp⟩
theorem SR.put {i : Nat} {ds es : D} {a : Addr} {u : HO} (h : SR K Zc ad H σ s) (e : s.mem[i]? = some (some ds)) (ha : ad[i]? = some a) (hv : Cell K (FZ Zc ad s.mem H) a u es) : SR K Zc ad (upd H a u) σ ⟨s.sl, s.mem.set i (some es)⟩ :=
  ⟨h.len, fun j sv q => by
    obtain ⟨x, e1, e2⟩ := h.slot j sv q
    exact ⟨x, e1, e2.frm (Frm.put e ha)⟩, h.mr.put e ha hv⟩
theorem SR.set {i : Nat} {v : V} {sv : SV} (h : SR K Zc ad H σ s) (r : VR K Zc ad s.mem H v sv) : SR K Zc ad H (σ.set i (some v)) ⟨s.sl.set i sv, s.mem⟩ := by
  refine NoI.keep (fun _ wNoI => ?_) ?_
  simp only [↓ NoI.wrOf wNoI (by
  clear wNoI
  refine ⟨by simpa using h.len, fun j tv q => ?_, h.mr⟩
  have q : (s.sl.set i sv)[j]? = some tv := q
  rw [List.getElem?_set] at q
  rw [List.getElem?_set]
  by_cases e : i = j
  · rw [if_pos e] at q ⊢
    split at q
    · rename_i hj
      cases q
      exact ⟨some v, by rw [if_pos (by rw [h.len]; exact hj)], .inr ⟨v, rfl, r⟩⟩
    · cases q
  · rw [if_neg e] at q ⊢
    exact h.slot j tv q
  )]
  intro _ hNoI
  simpa using (fun (_ : NoI.Sg) => hNoI) [5]
end
end SH

namespace SH
open PySem PySem.Spec PyProof.Rows L2
variable [WW]

/-! ### readings of data -/
def Post (K : PySem.W.Frag) (Zc : Addr → Prop) (ad : List Addr) (H : Hp) (σ : L2.St) (s : S) (Φ : SV → S → Prop) (Q : VK) : Prop :=
  ∀ v ad' H' sv s', Φ sv s' → SR K Zc ad' H' σ s' → Frm Zc s.mem.length ad s.mem H ad' s'.mem H' → VR K Zc ad' s'.mem H' v sv → Q v H'
def EvS (K : PySem.W.Frag) (Zc : Addr → Prop) (t : TE) (s : S) (Φ : SV → S → Prop) : Prop :=
  ∀ ad H σ Q, SR K Zc ad H σ s → Post K Zc ad H σ s Φ Q → t σ H Q
def OpS (K : PySem.W.Frag) (Zc : Addr → Prop) (r : R2) (x y : SV) (s : S) (Φ : SV → S → Prop) : Prop :=
  ∀ ad H σ v u Q, SR K Zc ad H σ s → VR K Zc ad s.mem H v x → VR K Zc ad s.mem H u y → Post K Zc ad H σ s Φ Q → r v u H Q
def UnS (K : PySem.W.Frag) (Zc : Addr → Prop) (r : V → Hp → VK → Prop) (x : SV) (s : S) (Φ : SV → S → Prop) : Prop :=
  ∀ ad H σ v Q, SR K Zc ad H σ s → VR K Zc ad s.mem H v x → Post K Zc ad H σ s Φ Q → r v H Q
def TtS (K : PySem.W.Frag) (Zc : Addr → Prop) (c : TT) (s : S) (Φ : Bool → S → Prop) : Prop :=
  ∀ ad H σ (Q : Bool → Hp → Prop), SR K Zc ad H σ s → (∀ b ad' H' s', Φ b s' → SR K Zc ad' H' σ s' → Frm Zc s.mem.length ad s.mem H ad' s'.mem H' → Q b H') → c σ H Q
def VRs (K : PySem.W.Frag) (Zc : Addr → Prop) (ad : List Addr) (m : Mem) (H : Hp) : List V → List SV → Prop
  | [], [] => True
  | v :: vs, x :: xs => VR K Zc ad m H v x ∧ VRs K Zc ad m H vs xs
  | _, _ => False
def ArS (K : PySem.W.Frag) (Zc : Addr → Prop) (t : TA) (s : S) (Φ : List SV → S → Prop) : Prop :=
  ∀ ad H σ (Q : List V → Hp → Prop), SR K Zc ad H σ s → (∀ vs ad' H' svs s', Φ svs s' → SR K Zc ad' H' σ s' → Frm Zc s.mem.length ad s.mem H ad' s'.mem H' → VRs K Zc ad' s'.mem H' vs svs → Q vs H') → t σ H Q
structure DE where
  nx : S → Prop
  rt : SV → Mem → Prop
  bk : S → Prop := fun _ => False
  ct : S → Prop := fun _ => False
def ExS (K : PySem.W.Frag) (Zc : Addr → Prop) (n : Nat) (t : TS) (s : S) (De : DE) : Prop :=
  ∀ ad H σ (Dd : Ends), SR K Zc ad H σ s → n ≤ s.mem.length →
    (∀ σ' ad' H' s', De.nx s' → SR K Zc ad' H' σ' s' → Frm Zc n ad s.mem H ad' s'.mem H' → Dd.nx σ' H') →
    (∀ v ad' H' rv m', De.rt rv m' → MR K Zc ad' H' m' → Frm Zc n ad s.mem H ad' m' H' → VR K Zc ad' m' H' v rv → Dd.rt v H') →
    (∀ σ' ad' H' s', De.bk s' → SR K Zc ad' H' σ' s' → Frm Zc n ad s.mem H ad' s'.mem H' → Dd.bk σ' H') →
    (∀ σ' ad' H' s', De.ct s' → SR K Zc ad' H' σ' s' → Frm Zc n ad s.mem H ad' s'.mem H' → Dd.ct σ' H') → t Dd σ H
/-- what a state tells of a value, while it stands so -/
def rd (m : Mem) : SV → Option D
  | .dat d => some d
  | .own i => match m[i]? with
    | some (some d) => some d
    | _ => none
  | .ro _ => none
  | .rng _ _ => none
  | .exn _ _ _ => none
  | .un => none
/-- a value that will not be changed any more: a cell is given up -/
def asD (Φ : D → S → Prop) (sv : SV) (s : S) : Prop :=
  match sv with
  | .dat d => Φ d s
  | .own i => match s.mem[i]? with
    | some (some d) => Φ d (s.fz i d)
    | _ => False
  | .ro _ => False
  | .rng _ _ => False
  | .exn _ _ _ => False
  | .un => False

section
variable {K : PySem.W.Frag} {Zc : Addr → Prop} {ad ad' ad2 : List Addr} {H H' H2 : Hp} {m m' m2 : Mem} {σ σ' : L2.St} {s s' s1 : S} {n : Nat} {Q : VK} {Φ : SV → S → Prop}
theorem Post.step (p : Post K Zc ad H σ s Φ Q) (a : Frm Zc s.mem.length ad s.mem H ad' s'.mem H') : Post K Zc ad' H' σ s' Φ Q :=
  fun v ad2 H2 sv s2 h1 h2 h3 h4 => p v ad2 H2 sv s2 h1 h2 (a.trans h3 a.le) h4
theorem Post.val (p : Post K Zc ad H σ s Φ Q) (I : SR K Zc ad H σ s) {v : V} {sv : SV} (h : Φ sv s) (r : VR K Zc ad s.mem H v sv) : Q v H := p v ad H sv s h I (.refl (Nat.le_refl _)) r
theorem Post.tup (p : Post K Zc ad H σ s Φ Q) (I : SR K Zc ad H σ s) {vs : List V} {ds : List D} (h : Φ (.dat (.tuple ds)) s) (r : DVs K (FZ Zc ad s.mem H) vs ds) : mkT H vs Q := by
  refine NoI.keep (fun _ wNoI => ?_) ?_
  simp only [↓ NoI.wrOf wNoI (by
  clear wNoI
  cases q : strsD ds with
  | false =>
    exact .inl fun a hp => p _ ad _ _ s h (I.newT hp) (.newT hp) (.tup (.inr ⟨q, I.mr.newT_at hp⟩) (dpAll_mono (Frm.newT (ad := ad) (m := s.mem) hp).same _ _ r))
  | true =>
    exact .inr fun a o ho hp => p _ ad _ _ s h (I.newT hp) (.newT hp) (.tup (.inl ⟨q, o, ho, I.mr.newT_at hp⟩) (dpAll_mono (Frm.newT (ad := ad) (m := s.mem) hp).same _ _ r))
  )]
  intro _ hNoI
  simpa using (fun (_ : NoI.Sg) => hNoI) [5]
theorem Post.cell (p : Post K Zc ad H σ s Φ Q) (I : SR K Zc ad H σ s) {u : HO} {d : D} {a : Addr} (h : Φ (.own s.mem.length) ⟨s.sl, s.mem ++ [some d]⟩) (hp : H a = none) (r : Cell K (FZ Zc ad s.mem H) a u d) : Q (.ref a) (upd H a u) :=
  p _ _ _ _ _ h (I.newO hp r) (.newO I.mr hp) (.newO I.mr)
theorem Post.lst (p : Post K Zc ad H σ s Φ Q) (I : SR K Zc ad H σ s) {vs : List V} {ds : List D} {a : Addr} (h : Φ (.own s.mem.length) ⟨s.sl, s.mem ++ [some (.list ds)]⟩) (hp : H a = none) (r : DVs K (FZ Zc ad s.mem H) vs ds) : Q (.ref a) (upd H a (.lst vs)) :=
  p.cell I h hp (.lst r)

/-! what is read -/
theorem rd_own {i : Nat} {d : D} (e : rd m (.own i) = some d) : m[i]? = some (some d) := by
  simp only [rd] at e
  split at e
  · rename_i x q; cases e; exact q
  · cases e
theorem rd_obj {v : V} {i : Nat} {d : D} (h : MR K Zc ad H m) (r : VR K Zc ad m H v (.own i)) (e : m[i]? = some (some d)) : ∃ a o, v = .ref a ∧ ad[i]? = some a ∧ H a = some o ∧ Cell K (FZ Zc ad m H) a o d := by
  obtain ⟨_, a, h2, rfl⟩ := r
  obtain ⟨b, o, q1, q2, q3⟩ := h.cell i d e
  rw [h2] at q1; cases q1
  exact ⟨a, o, rfl, h2, q2, q3⟩
theorem rd_D {v : V} {sv : SV} {d : D} (h : MR K Zc ad H m) (r : VR K Zc ad m H v sv) (e : rd m sv = some d) : DV K H v d := by
  refine NoI.keep (fun _ wNoI => ?_) ?_
  simp only [↓ NoI.wrOf wNoI (by
  clear wNoI
  cases sv with
  | dat x => cases e; exact dp_mono Fz_le _ _ r
  | own i =>
    obtain ⟨a, o, rfl, _, q2, q3⟩ := rd_obj h r (rd_own e)
    exact (q3.mono Fz_le).dv q2
  | ro _ => cases e
  | rng _ _ => cases e
  | exn _ _ _ => cases e
  | un => cases e
  )]
  intro _ hNoI
  simpa using (fun (_ : NoI.Sg) => hNoI) [5]
theorem rd_lst {v : V} {sv : SV} {ds : List D} (h : MR K Zc ad H m) (r : VR K Zc ad m H v sv) (e : rd m sv = some (.list ds)) : ∃ a vs, v = .ref a ∧ H a = some (.lst vs) ∧ DVs K (FZ Zc ad m H) vs ds := by
  refine NoI.keep (fun _ wNoI => ?_) ?_
  simp only [↓ NoI.wrOf wNoI (by
  clear wNoI
  cases sv with
  | dat x =>
    cases e
    cases r with
    | lst h1 h2 => exact ⟨_, _, rfl, (Fz_inv h1).2, h2⟩
  | own i =>
    obtain ⟨a, o, rfl, _, q2, q3⟩ := rd_obj h r (rd_own e)
    cases q3 with
    | lst q3 => exact ⟨_, _, rfl, q2, q3⟩
  | ro _ => cases e
  | rng _ _ => cases e
  | exn _ _ _ => cases e
  | un => cases e
  )]
  intro _ hNoI
  simpa using (fun (_ : NoI.Sg) => hNoI) [5]
theorem rd_tup {v : V} {sv : SV} {ds : List D} (h : MR K Zc ad H m) (r : VR K Zc ad m H v sv) (e : rd m sv = some (.tuple ds)) : ∃ a vs, v = .ref a ∧ SqT K H a vs ∧ DVs K (FZ Zc ad m H) vs ds := by
  refine NoI.keep (fun _ wNoI => ?_) ?_
  simp only [↓ NoI.wrOf wNoI (by
  clear wNoI
  cases sv with
  | dat x =>
    cases e
    cases r with
    | tup h1 h2 => exact ⟨_, _, rfl, (h1.same Fz_le).sq, h2⟩
  | own i =>
    obtain ⟨a, o, rfl, _, q2, q3⟩ := rd_obj h r (rd_own e)
    cases q3
  | ro _ => cases e
  | rng _ _ => cases e
  | exn _ _ _ => cases e
  | un => cases e
  )]
  intro _ hNoI
  simpa using (fun (_ : NoI.Sg) => hNoI) [5]
theorem rd_int {v : V} {sv : SV} {i : Int} (h : MR K Zc ad H m) (r : VR K Zc ad m H v sv) (e : rd m sv = some (.int i)) : v = .int i := by
  refine NoI.keep (fun _ wNoI => ?_) ?_
  simp only [↓ NoI.wrOf wNoI (by
  clear wNoI
  cases sv with
  | dat x => cases e; cases r; rfl
  | own i =>
    obtain ⟨a, o, rfl, _, q2, q3⟩ := rd_obj h r (rd_own e)
    cases q3
  | ro _ => cases e
  | rng _ _ => cases e
  | exn _ _ _ => cases e
  | un => cases e
  )]
  intro _ hNoI
  simpa using (fun (_ : NoI.Sg) => hNoI) [5]
theorem rd_str {v : V} {sv : SV} {i : Str} (h : MR K Zc ad H m) (r : VR K Zc ad m H v sv) (e : rd m sv = some (.str i)) : v = .str i := by
  refine NoI.keep (fun _ wNoI => ?_) ?_
  simp only [↓ NoI.wrOf wNoI (by
  clear wNoI
  cases sv with
  | dat x => cases e; cases r; rfl
  | own i =>
    obtain ⟨a, o, rfl, _, q2, q3⟩ := rd_obj h r (rd_own e)
    cases q3
  | ro _ => cases e
  | rng _ _ => cases e
  | exn _ _ _ => cases e
  | un => cases e
  )]
  intro _ hNoI
  simpa using (fun (_ : NoI.Sg) => hNoI) [5]
theorem rd_tupH {v : V} {sv : SV} {ds : List D} (h : MR K Zc ad H m) (r : VR K Zc ad m H v sv) (e : rd m sv = some (.tuple ds)) : ∃ a vs, v = .ref a ∧ TupD H a vs ds ∧ DVs K (FZ Zc ad m H) vs ds := by
  refine NoI.keep (fun _ wNoI => ?_) ?_
  simp only [↓ NoI.wrOf wNoI (by
  clear wNoI
  cases sv with
  | dat x =>
    cases e
    cases r with
    | tup h1 h2 => exact ⟨_, _, rfl, h1.same Fz_le, h2⟩
  | own i =>
    obtain ⟨a, o, rfl, _, q2, q3⟩ := rd_obj h r (rd_own e)
    cases q3
  | ro _ => cases e
  | rng _ _ => cases e
  | exn _ _ _ => cases e
  | un => cases e
  )]
  intro _ hNoI
  simpa using (fun (_ : NoI.Sg) => hNoI) [5]
theorem rd_tupD {v : V} {sv : SV} {ds : List D} (h : MR K Zc ad H m) (r : VR K Zc ad m H v sv) (e : rd m sv = some (.tuple ds)) : sv = .dat (.tuple ds) := by
  refine NoI.keep (fun _ wNoI => ?_) ?_
  simp only [↓ NoI.wrOf wNoI (by
  clear wNoI
  cases sv with
  | dat x => cases e; rfl
  | own i =>
    obtain ⟨a, o, rfl, _, q2, q3⟩ := rd_obj h r (rd_own e)
    cases q3
  | ro _ => cases e
  | rng _ _ => cases e
  | exn _ _ _ => cases e
  | un => cases e
  )]
  intro _ hNoI
  simpa using (fun (_ : NoI.Sg) => hNoI) [5]
/-! ### expressions -/
theorem ev_var {i : Nat} {sv : SV} (h : s.sl[i]? = some sv) (hu : sv ≠ .un) (k : Φ sv s) : EvS K Zc (tVar i) s Φ := by
  intro ad H σ Q I p
  obtain ⟨o, e, r⟩ := I.slot i sv h
  rcases r with r | ⟨v, rfl, r⟩
  · exact absurd r hu
  · exact ⟨v, e, p.val I k r⟩
theorem ev_int {i : Int} (k : Φ (.dat (.int i)) s) : EvS K Zc (tC (.int i)) s Φ := fun _ _ _ _ I p => p.val I k (.int i)
theorem ev_str {i : Str} (k : Φ (.dat (.str i)) s) : EvS K Zc (tC (.str i)) s Φ := fun _ _ _ _ I p => p.val I k (.str i)
theorem ev_bl {i : Bool} (k : Φ (.dat (.bool i)) s) : EvS K Zc (tC (.bl i)) s Φ := fun _ _ _ _ I p => p.val I k (.bl i)
theorem ev_non (k : Φ (.dat .none) s) : EvS K Zc (tC .non) s Φ := fun _ _ _ _ I p => p.val I k .non
/-- a value as it will stay -/
theorem ev_asD {t : TE} {Ψ : D → S → Prop} (h : EvS K Zc t s (asD Ψ)) (k : ∀ d s', Ψ d s' → Φ (.dat d) s') : EvS K Zc t s Φ := by
  refine NoI.keep (fun _ wNoI => ?_) ?_
  simp only [↓ NoI.wrOf wNoI (by
  clear wNoI
  intro ad H σ Q I p
  refine h ad H σ Q I fun v ad' H' sv s' hΨ I' F r => ?_
  cases sv with
  | dat d => exact p v ad' H' _ s' (k _ _ hΨ) I' F r
  | own i =>
    simp only [asD] at hΨ
    split at hΨ
    · rename_i ds e
      obtain ⟨_, a, h2, rfl⟩ := r
      exact p _ ad' H' _ _ (k _ _ hΨ) (I'.fz e) (F.trans (Frm.drop (i := i)) F.le) (I'.mr.drop_at e h2)
    · exact hΨ.elim
  | ro _ => exact hΨ.elim
  | rng _ _ => exact hΨ.elim
  | exn _ _ _ => exact hΨ.elim
  | un => exact hΨ.elim
  )]
  intro _ hNoI
  simpa using (fun (_ : NoI.Sg) => hNoI) [5]
theorem ev_D {t : TE} (h : EvS K Zc t s (asD fun d => Φ (.dat d))) : EvS K Zc t s Φ := ev_asD h fun _ _ q => q
theorem EvS.imp {t : TE} {Ψ : SV → S → Prop} (h : EvS K Zc t s Ψ) (k : ∀ sv s', Ψ sv s' → Φ sv s') : EvS K Zc t s Φ := fun ad H σ Q I p => h ad H σ Q I fun v ad' H' sv s' a b c d => p v ad' H' sv s' (k _ _ a) b c d
theorem ev_op {r : R2} {ta tb : TE} (h : EvS K Zc ta s fun x s1 => EvS K Zc tb s1 fun y s2 => OpS K Zc r x y s2 Φ) : EvS K Zc (tOp r ta tb) s Φ := by
  refine NoI.keep (fun _ wNoI => ?_) ?_
  simp only [↓ NoI.wrOf wNoI (by
  clear wNoI
  intro ad H σ Q I p
  refine h ad H σ _ I fun x ad1 H1 sx s1 h1 I1 F1 r1 => h1 ad1 H1 σ _ I1 fun y ad2 H2 sy s2 h2 I2 F2 r2 => ?_
  exact h2 ad2 H2 σ x y Q I2 (r1.frm F2) r2 ((p.step F1).step F2)
  )]
  intro _ hNoI
  simpa using (fun (_ : NoI.Sg) => hNoI) [5]
theorem ev_un {r : V → Hp → VK → Prop} {ta : TE} (h : EvS K Zc ta s fun x s1 => UnS K Zc r x s1 Φ) : EvS K Zc (tUn r ta) s Φ := by
  intro ad H σ Q I p
  exact h ad H σ _ I fun x ad1 H1 sx s1 h1 I1 F1 r1 => h1 ad1 H1 σ x Q I1 r1 (p.step F1)
theorem ev_if {c : TT} {ta tb : TE} (h : TtS K Zc c s fun b s1 => (b = true → EvS K Zc ta s1 Φ) ∧ (b = false → EvS K Zc tb s1 Φ)) : EvS K Zc (tIf c ta tb) s Φ := by
  refine NoI.keep (fun _ wNoI => ?_) ?_
  simp only [↓ NoI.wrOf wNoI (by
  clear wNoI
  intro ad H σ Q I p
  refine h ad H σ _ I fun b ad1 H1 s1 h1 I1 F1 => ?_
  cases b with
  | true => exact h1.1 rfl ad1 H1 σ Q I1 (p.step F1)
  | false => exact h1.2 rfl ad1 H1 σ Q I1 (p.step F1)
  )]
  intro _ hNoI
  simpa using (fun (_ : NoI.Sg) => hNoI) [5]
theorem VRs.frm : ∀ {vs : List V} {svs : List SV}, VRs K Zc ad m H vs svs → Frm Zc m.length ad m H ad' m' H' → VRs K Zc ad' m' H' vs svs
  | [], [], _, _ => trivial
  | _ :: _, _ :: _, h, a => ⟨h.1.frm a, VRs.frm h.2 a⟩
  | [], _ :: _, h, _ => h
  | _ :: _, [], h, _ => h
theorem VRs.len : ∀ {vs : List V} {svs : List SV}, VRs K Zc ad m H vs svs → vs.length = svs.length
  | [], [], _ => rfl
  | _ :: _, _ :: _, h => by simp [VRs.len h.2]
  | [], _ :: _, h => h.elim
  | _ :: _, [], h => h.elim
theorem VRs.get : ∀ {vs : List V} {svs : List SV} {i : Nat} {sv : SV}, VRs K Zc ad m H vs svs → svs[i]? = some sv → ∃ v, vs[i]? = some v ∧ VR K Zc ad m H v sv
  | [], [], _, _, _, e => by simp at e
  | v :: _, _ :: _, 0, _, h, e => by simp at e; subst e; exact ⟨v, rfl, h.1⟩
  | _ :: _, _ :: _, i + 1, sv, h, e => by
    obtain ⟨v, e1, e2⟩ := VRs.get (i := i) h.2 (by simpa using e)
    exact ⟨v, by simpa using e1, e2⟩
  | [], _ :: _, _, _, h, _ => h.elim
  | _ :: _, [], _, _, h, _ => h.elim
theorem ar_nil {Ψ : List SV → S → Prop} (k : Ψ [] s) : ArS K Zc tNil s Ψ := fun ad H σ Q I p => p [] ad H [] s k I (.refl (Nat.le_refl _)) trivial
theorem ar_cons {ta : TE} {tr : TA} {Ψ : List SV → S → Prop} (h : EvS K Zc ta s fun x s1 => ArS K Zc tr s1 fun xs s2 => Ψ (x :: xs) s2) : ArS K Zc (tCons ta tr) s Ψ := by
  refine NoI.keep (fun _ wNoI => ?_) ?_
  simp only [↓ NoI.wrOf wNoI (by
  clear wNoI
  intro ad H σ Q I p
  refine h ad H σ _ I fun x ad1 H1 sx s1 h1 I1 F1 r1 => h1 ad1 H1 σ _ I1 fun xs ad2 H2 svs s2 h2 I2 F2 r2 => ?_
  exact p (x :: xs) ad2 H2 (sx :: svs) s2 h2 I2 (F1.trans F2 F1.le) ⟨r1.frm F2, r2⟩
  )]
  intro _ hNoI
  simpa using (fun (_ : NoI.Sg) => hNoI) [5]
/-- all of them as they will stay -/
def allD : List SV → Option (List D)
  | [] => some []
  | .dat d :: r => (allD r).map (d :: ·)
  | _ :: _ => none
theorem allD_dvs : ∀ {vs : List V} {svs : List SV} {ds : List D}, VRs K Zc ad m H vs svs → allD svs = some ds → DVs K (FZ Zc ad m H) vs ds
  | [], [], _, _, e => by cases e; exact .nil
  | v :: vs, .dat d :: svs, ds, h, e => by
    simp only [allD, Option.map_eq_some_iff] at e
    obtain ⟨es, e1, rfl⟩ := e
    exact .cons h.1 (allD_dvs h.2 e1)
  | _ :: _, .own _ :: _, _, _, e => by cases e
  | _ :: _, .un :: _, _, _, e => by cases e
  | _ :: _, .ro _ :: _, _, _, e => by cases e
  | _ :: _, .rng _ _ :: _, _, _, e => by cases e
  | _ :: _, .exn _ _ _ :: _, _, _, e => by cases e
  | [], _ :: _, _, h, _ => h.elim
  | _ :: _, [], _, h, _ => h.elim
/-- a tuple of which all is known, made -/
def tTupF (t : TA) : TE := fun σ H Q => t σ H fun xs H1 => xs.length ≤ sizeLine ∧ mkT H1 xs Q
theorem ev_tup {ta : TA} (h : ArS K Zc ta s fun svs s1 => ∃ ds, allD svs = some ds ∧ ds.length ≤ sizeLine ∧ Φ (.dat (.tuple ds)) s1) : EvS K Zc (tTupF ta) s Φ := by
  refine NoI.keep (fun _ wNoI => ?_) ?_
  simp only [↓ NoI.wrOf wNoI (by
  clear wNoI
  intro ad H σ Q I p
  refine h ad H σ _ I fun vs ad1 H1 svs s1 h1 I1 F1 r1 => ?_
  obtain ⟨ds, e, hz, k⟩ := h1
  have hd := allD_dvs r1 e
  exact ⟨by rw [dpAll_len hd]; exact hz, (p.step F1).tup I1 k hd⟩
  )]
  intro _ hNoI
  simpa using (fun (_ : NoI.Sg) => hNoI) [5]
theorem ev_lst {ta : TA} (h : ArS K Zc ta s fun svs s1 => ∃ ds, allD svs = some ds ∧ ds.length ≤ sizeLine ∧ Φ (.own s1.mem.length) ⟨s1.sl, s1.mem ++ [some (.list ds)]⟩) : EvS K Zc (tLst ta) s Φ := by
  refine NoI.keep (fun _ wNoI => ?_) ?_
  simp only [↓ NoI.wrOf wNoI (by
  clear wNoI
  intro ad H σ Q I p
  refine h ad H σ _ I fun vs ad1 H1 svs s1 h1 I1 F1 r1 => ?_
  obtain ⟨ds, e, hz, k⟩ := h1
  have hd := allD_dvs r1 e
  exact ⟨by rw [dpAll_len hd]; exact hz, fun q hq => (p.step F1).lst I1 k hq hd⟩
  )]
  intro _ hNoI
  simpa using (fun (_ : NoI.Sg) => hNoI) [5]

/-! ### tests -/
theorem tt_test {te : TE} {Ψ : Bool → S → Prop} (h : EvS K Zc te s fun sv s' => ∃ b, sv = .dat (.bool b) ∧ Ψ b s') : TtS K Zc (tTest te) s Ψ := by
  intro ad H σ Q I p
  refine h ad H σ _ I fun v ad1 H1 sv s1 h1 I1 F1 r1 => ?_
  obtain ⟨b, rfl, k⟩ := h1
  cases r1
  exact ⟨b, rfl, p b ad1 H1 s1 k I1 F1⟩
theorem tt_and {t u : TT} {Ψ : Bool → S → Prop} (h : TtS K Zc t s fun b s1 => (b = true → TtS K Zc u s1 Ψ) ∧ (b = false → Ψ false s1)) : TtS K Zc (tAnd t u) s Ψ := by
  refine NoI.keep (fun _ wNoI => ?_) ?_
  simp only [↓ NoI.wrOf wNoI (by
  clear wNoI
  intro ad H σ Q I p
  refine h ad H σ _ I fun b ad1 H1 s1 h1 I1 F1 => ?_
  cases b with
  | true => exact h1.1 rfl ad1 H1 σ Q I1 fun b ad2 H2 s2 q I2 F2 => p b ad2 H2 s2 q I2 (F1.trans F2 F1.le)
  | false => exact p false ad1 H1 s1 (h1.2 rfl) I1 F1
  )]
  intro _ hNoI
  simpa using (fun (_ : NoI.Sg) => hNoI) [5]
theorem tt_or {t u : TT} {Ψ : Bool → S → Prop} (h : TtS K Zc t s fun b s1 => (b = true → Ψ true s1) ∧ (b = false → TtS K Zc u s1 Ψ)) : TtS K Zc (tOr t u) s Ψ := by
  refine NoI.keep (fun _ wNoI => ?_) ?_
  simp only [↓ NoI.wrOf wNoI (by
  clear wNoI
  intro ad H σ Q I p
  refine h ad H σ _ I fun b ad1 H1 s1 h1 I1 F1 => ?_
  cases b with
  | true => exact p true ad1 H1 s1 (h1.1 rfl) I1 F1
  | false => exact h1.2 rfl ad1 H1 σ Q I1 fun b ad2 H2 s2 q I2 F2 => p b ad2 H2 s2 q I2 (F1.trans F2 F1.le)
  )]
  intro _ hNoI
  simpa using (fun (_ : NoI.Sg) => hNoI) [5]
theorem tt_not {t : TT} {Ψ : Bool → S → Prop} (h : TtS K Zc t s fun b s1 => Ψ (!b) s1) : TtS K Zc (tNot t) s Ψ := by
  intro ad H σ Q I p
  exact h ad H σ _ I fun b ad1 H1 s1 h1 I1 F1 => p _ ad1 H1 s1 h1 I1 F1

/-! ### statements -/
variable {De : DE}
theorem ex_seq {t u : TS} (h : ExS K Zc n t s { De with nx := fun s1 => ExS K Zc n u s1 De }) : ExS K Zc n (tSeq t u) s De := by
  refine NoI.keep (fun _ wNoI => ?_) ?_
  simp only [↓ NoI.wrOf wNoI (by
  clear wNoI
  intro ad H σ Dd I hn k1 k2 k3 k4
  refine h ad H σ { Dd with nx := u Dd } I hn (fun σ1 ad1 H1 s1 h1 I1 F1 => ?_) k2 k3 k4
  exact h1 ad1 H1 σ1 Dd I1 F1.le (fun σ2 ad2 H2 s2 a b c => k1 σ2 ad2 H2 s2 a b (F1.trans c (Nat.le_refl n))) (fun v ad2 H2 rv m2 a b c d => k2 v ad2 H2 rv m2 a b (F1.trans c (Nat.le_refl n)) d)
    (fun σ2 ad2 H2 s2 a b c => k3 σ2 ad2 H2 s2 a b (F1.trans c (Nat.le_refl n))) fun σ2 ad2 H2 s2 a b c => k4 σ2 ad2 H2 s2 a b (F1.trans c (Nat.le_refl n))
  )]
  intro _ hNoI
  simpa using (fun (_ : NoI.Sg) => hNoI) [5]
theorem ex_ret {te : TE} (h : EvS K Zc te s fun sv s' => De.rt sv s'.mem) : ExS K Zc n (tRet te) s De := by
  intro ad H σ Dd I hn k1 k2 k3 k4
  exact h ad H σ _ I fun v ad1 H1 sv s1 h1 I1 F1 r1 => k2 v ad1 H1 sv s1.mem h1 I1.mr (F1.less hn) r1
theorem ex_next (h : De.nx s) : ExS K Zc n tNext s De := by
  intro ad H σ Dd I hn k1 k2 k3 k4
  exact k1 σ ad H s h I (.refl hn)
theorem ex_break (h : De.bk s) : ExS K Zc n tBreak s De := by
  intro ad H σ Dd I hn k1 k2 k3 k4
  exact k3 σ ad H s h I (.refl hn)
theorem ex_cont (h : De.ct s) : ExS K Zc n tCont s De := by
  intro ad H σ Dd I hn k1 k2 k3 k4
  exact k4 σ ad H s h I (.refl hn)
theorem ex_drop {te : TE} (h : EvS K Zc te s fun _ s' => De.nx s') : ExS K Zc n (tDrop te) s De := by
  intro ad H σ Dd I hn k1 k2 k3 k4
  exact h ad H σ _ I fun v ad1 H1 sv s1 h1 I1 F1 r1 => k1 σ ad1 H1 s1 h1 I1 (F1.less hn)
theorem ex_if {c : TT} {t u : TS} (h : TtS K Zc c s fun b s1 => (b = true → ExS K Zc n t s1 De) ∧ (b = false → ExS K Zc n u s1 De)) : ExS K Zc n (tIfS c t u) s De := by
  refine NoI.keep (fun _ wNoI => ?_) ?_
  simp only [↓ NoI.wrOf wNoI (by
  clear wNoI
  intro ad H σ Dd I hn k1 k2 k3 k4
  refine h ad H σ _ I fun b ad1 H1 s1 h1 I1 F1 => ?_
  have F1 := F1.less hn
  have go : ∀ {w : TS}, ExS K Zc n w s1 De → w Dd σ H1 := fun {w} q => q ad1 H1 σ Dd I1 F1.le (fun σ2 ad2 H2 s2 a b c => k1 σ2 ad2 H2 s2 a b (F1.trans c (Nat.le_refl n))) (fun v ad2 H2 rv m2 a b c d => k2 v ad2 H2 rv m2 a b (F1.trans c (Nat.le_refl n)) d)
    (fun σ2 ad2 H2 s2 a b c => k3 σ2 ad2 H2 s2 a b (F1.trans c (Nat.le_refl n))) fun σ2 ad2 H2 s2 a b c => k4 σ2 ad2 H2 s2 a b (F1.trans c (Nat.le_refl n))
  cases b with
  | true => exact go (h1.1 rfl)
  | false => exact go (h1.2 rfl)
  )]
  intro _ hNoI
  simpa using (fun (_ : NoI.Sg) => hNoI) [5]
/-- what is known less of, ahead of a statement -/
theorem ex_wk {t : TS} (w : Wk s s1) (hn : n ≤ s1.mem.length) (h : ExS K Zc n t s1 De) : ExS K Zc n t s De := by
  refine NoI.keep (fun _ wNoI => ?_) ?_
  simp only [↓ NoI.wrOf wNoI (by
  clear wNoI
  intro ad H σ Dd I _ k1 k2 k3 k4
  have F1 : Frm Zc n ad s.mem H ad s1.mem H := w.frm hn
  exact h ad H σ Dd (I.wk w) hn (fun σ2 ad2 H2 s2 a b c => k1 σ2 ad2 H2 s2 a b (F1.trans c (Nat.le_refl n))) (fun v ad2 H2 rv m2 a b c d => k2 v ad2 H2 rv m2 a b (F1.trans c (Nat.le_refl n)) d)
    (fun σ2 ad2 H2 s2 a b c => k3 σ2 ad2 H2 s2 a b (F1.trans c (Nat.le_refl n))) fun σ2 ad2 H2 s2 a b c => k4 σ2 ad2 H2 s2 a b (F1.trans c (Nat.le_refl n))
  )]
  intro _ hNoI
  simpa using (fun (_ : NoI.Sg) => hNoI) [5]
/-- targets -/
def GS (K : PySem.W.Frag) (Zc : Addr → Prop) (g : TG) (sv : SV) (s : S) (Ψ : S → Prop) : Prop :=
  ∀ ad H σ v (Q : L2.St → Hp → Prop), SR K Zc ad H σ s → VR K Zc ad s.mem H v sv → (∀ σ' sl', Ψ ⟨sl', s.mem⟩ → SR K Zc ad H σ' ⟨sl', s.mem⟩ → Q σ' H) → g v σ H Q
def GSs (K : PySem.W.Frag) (Zc : Addr → Prop) (g : TGs) (ds : List D) (s : S) (Ψ : S → Prop) : Prop :=
  ∀ ad H σ vs (Q : L2.St → Hp → Prop), SR K Zc ad H σ s → DVs K (FZ Zc ad s.mem H) vs ds → (∀ σ' sl', Ψ ⟨sl', s.mem⟩ → SR K Zc ad H σ' ⟨sl', s.mem⟩ → Q σ' H) → g vs σ H Q
theorem g_name {i : Nat} {sv : SV} {Ψ : S → Prop} (h : Ψ ⟨s.sl.set i sv, s.mem⟩) : GS K Zc (gName i) sv s Ψ := by
  intro ad H σ v Q I r k
  exact k _ _ h (I.set r)
theorem g_nil {Ψ : S → Prop} (h : Ψ s) : GSs K Zc gNil [] s Ψ := by
  intro ad H σ vs Q I r k
  cases r
  exact ⟨rfl, k _ s.sl h I⟩
theorem g_cons {g : TG} {u : TGs} {d : D} {ds : List D} {Ψ : S → Prop} (h : GS K Zc g (.dat d) s fun s1 => GSs K Zc u ds s1 Ψ) : GSs K Zc (gCons g u) (d :: ds) s Ψ := by
  intro ad H σ vs Q I r k
  cases r with
  | cons r1 r2 =>
    refine ⟨_, _, rfl, h ad H σ _ _ I r1 fun σ1 sl1 h1 I1 => ?_⟩
    exact h1 ad H σ1 _ Q I1 r2 k
theorem g_tup {K' : PySem.W.Frag} {j : Nat} {u : TGs} {d : D} {ds : List D} {Ψ : S → Prop} (hK : K' = K) (hd : d = .tuple ds) (hl : ds.length = j) (h : GSs K Zc u ds s Ψ) : GS K Zc (gTup K' j u) (.dat d) s Ψ := by
  refine NoI.keep (fun _ wNoI => ?_) ?_
  simp only [↓ NoI.wrOf wNoI (by
  clear wNoI
  intro ad H σ v Q I r k
  subst hK hd
  cases r with
  | tup h1 h2 => exact ⟨_, _, rfl, (h1.same Fz_le).sq, by rw [dpAll_len h2]; exact hl, h ad H σ _ Q I h2 k⟩
  )]
  intro _ hNoI
  simpa using (fun (_ : NoI.Sg) => hNoI) [5]
theorem ex_asg {te : TE} {g : TG} (h : EvS K Zc te s fun sv s1 => GS K Zc g sv s1 De.nx) : ExS K Zc n (tAsg te g) s De := by
  refine NoI.keep (fun _ wNoI => ?_) ?_
  simp only [↓ NoI.wrOf wNoI (by
  clear wNoI
  intro ad H σ Dd I hn k1 k2 k3 k4
  refine h ad H σ _ I fun v ad1 H1 sv s1 h1 I1 F1 r1 => ?_
  exact h1 ad1 H1 σ v _ I1 r1 fun σ2 sl2 h2 I2 => k1 σ2 ad1 H1 _ h2 I2 (F1.less hn)
  )]
  intro _ hNoI
  simpa using (fun (_ : NoI.Sg) => hNoI) [5]
end
end SH

/-! == of two values that tell the same data, dicts of any keys included; dicts whose keys are tuples, as the library tells them -/
namespace SH
open PySem PySem.Spec PyProof.Rows L2
section
variable [WW]
theorem dxo_at {P : Program} {w : World} {H : Hp} {h : Heap} {a : Addr} {xs : List XE} (ok : HOk P w H h) (e : Rd H a (DXo a xs)) : DXp a xs h := (e.ok ok).1
variable {X : Cx} {pins : List (Addr × Obj)} {σ : L2.St} {H : Hp} {s : Shared}
mutual
theorem nk_is (I : L2.Inv X pins σ H s) : ∀ (k : NestedKey) (v : V) (u : Value), DV X.K H v k.data → RelV v u → NestedIs s.heap k u
  | .none, _, _, h, r => by
    cases h
    cases r
    exact .none
  | .num i, _, _, h, r => by
    cases h
    obtain ⟨t, rfl⟩ := r
    exact .int i t
  | .text x, _, _, h, r => by
    cases h
    obtain ⟨t, rfl⟩ := r
    exact .text x t
  | .tup ks, _, _, h, r => by
    cases h with
    | tup h1 h2 =>
      cases r
      obtain ⟨its, rv, ⟨o, e1, e2, n, e3⟩, _⟩ := I.tuple (h1.sq (K := X.K))
      exact .tup e1 e2 e3 (by simpa using nks_is I ks _ _ h2 rv)
theorem nks_is (I : L2.Inv X pins σ H s) : ∀ (ks : List NestedKey) (vs : List V) (us : List Value), DVs X.K H vs (NestedKey.datas ks) → Vals vs us → NestedAll s.heap ks us
  | [], _, _, h, r => by
    cases h
    cases r
    exact .nil
  | k :: ks, _, _, h, r => by
    cases h with
    | cons h1 h2 =>
      cases r with
      | cons r1 r2 => exact .cons (nk_is I k _ _ h1 r1) (nks_is I ks _ _ h2 r2)
end
theorem xes_is (I : L2.Inv X pins σ H s) : ∀ {xs : List XE} {ys : List (NestedKey × Addr × Value)} {es : List (D × D)}, XEs xs ys → DKs X.K H xs es → (∀ x ∈ xs, x.1.depth ≤ 8) → ∀ y ∈ ys, (nestedKind X.prog X.w).is s.heap y.1 y.2.1
  | _, _, _, .nil, _, _, y, hy => by simp at hy
  | _, _, _, .cons r t, .cons h1 h2 h3, hd, y, hy => by
    rcases List.mem_cons.mp hy with rfl | hy
    · obtain ⟨e1, e2, _⟩ := r
      rw [← e1, ← e2]
      exact ⟨nk_is I _ _ _ h1 rfl, hd _ List.mem_cons_self⟩
    · exact xes_is I t h3 (fun x hx => hd x (List.mem_cons_of_mem _ hx)) y hy
end
/-- such a dict, as the library tells it -/
theorem dx_of {X : Cx} {pins : List (Addr × Obj)} {σ : L2.St} {H : Hp} {s : Shared} {a : Addr} {xs : List XE} {es : List (D × D)} (I : L2.Inv X pins σ H s) (e : Rd H a (@DXo ⟨X.w⟩ a xs)) (h : @DKs ⟨X.w⟩ X.K H xs es) :
    ∃ ys, XEs xs ys ∧ s.heap.DictOfH (nestedKind X.prog X.w) a ys ∧ (xs.length ≤ sizeLine ∧ ∀ x ∈ xs, x.1.depth ≤ 8) ∧ (a == sysModules) = false := by
  refine NoI.keep (fun _ wNoI => ?_) ?_
  simp only [↓ NoI.wrOf wNoI (by
  clear wNoI
  obtain ⟨hd, hs, ys, r, o, es', ep, g1, g2, g3, g4, g5⟩ := @dxo_at ⟨X.w⟩ _ _ _ _ _ _ I.hok e
  exact ⟨ys, r, ⟨o, es', ep, g1, g2, g3, g4, @xes_is ⟨X.w⟩ _ _ _ _ _ I _ _ _ r h hd.2, g5⟩, hd, hs⟩
  )]
  intro _ hNoI
  simpa using (fun (_ : NoI.Sg) => hNoI) [5]
theorem dx_new {X : Cx} {H' : Hp} {h' : Heap} {a : Addr} {xs : List XE} {ys : List (NestedKey × Addr × Value)} (hd : xs.length ≤ sizeLine ∧ ∀ x ∈ xs, x.1.depth ≤ 8) (hs : (a == sysModules) = false) (r : XEs xs ys) (d : h'.DictOfH (nestedKind X.prog X.w) a ys) :
    ObjOk X.prog X.w H' h' a (@DXo ⟨X.w⟩ a xs) := by
  refine NoI.keep (fun _ wNoI => ?_) ?_
  simp only [↓ NoI.wrOf wNoI (by
  clear wNoI
  obtain ⟨o, es, ep, g1, g2, g3, g4, _, g5⟩ := d
  exact ⟨⟨hd, hs, ys, r, o, es, ep, g1, g2, g3, g4, g5⟩, ⟨o, g1⟩, fun h1 h2 z k => by
    obtain ⟨q1, q2, zs, q3, o2, es2, ep2, q4, q5⟩ := z
    exact ⟨q1, q2, zs, q3, o2, es2, ep2, k _ q4, q5⟩⟩
  )]
  intro _ hNoI
  simpa using (fun (_ : NoI.Sg) => hNoI) [5]
/-- an empty dict, of whatever keys -/
theorem dk_nil {X : Cx} {pins : List (Addr × Obj)} {σ : L2.St} {H : Hp} {s : Shared} {a : Addr} (I : L2.Inv X pins σ H s) (e : Rd H a (.dK [])) : s.heap.DictOfH (nestedKind X.prog X.w) a [] ∧ (a == sysModules) = false := by
  refine NoI.keep (fun _ wNoI => ?_) ?_
  simp only [↓ NoI.wrOf wNoI (by
  clear wNoI
  obtain ⟨z, hd, vs0, r0, dd⟩ := dk_rd I.hok e
  cases r0
  obtain ⟨o, es, ep, h1, h2, h3, _, h5, _⟩ := dd
  refine ⟨⟨o, es, ep, h1, h2, h3, ?_, by simp, by simp⟩, hd⟩
  have := h5.length
  simpa using this
  )]
  intro _ hNoI
  simpa using (fun (_ : NoI.Sg) => hNoI) [5]

/-! ### == of two dicts whose keys are objects, where all is found -/
section
variable {prog : Program} {w : World} {κ : Type} [DecidableEq κ] {knd : HeapKind prog w κ} {A : Around} {E : Value → Shared → Prop} {s : Shared}
/-- each entry's value is found equal in the other dict -/
def AllIn (prog : Program) (w : World) (A : Around) (s : Shared) (xs ys : List (κ × Addr × Value)) : Prop :=
  ∀ (i : Nat) (k : κ) (b : Addr) (v : Value), xs[i]? = some (k, b, v) → ∃ (j : Nat) (c : Addr) (u : Value), ys[j]? = some (k, c, u) ∧ SeqAt.EqP prog w A s v u true
theorem samePairsX {nm : String} {a b : Addr} {xs ys : List (κ × Addr × Value)} {Q : Bool → Shared → Prop} (hu : knd.room A) (ha : (a == sysModules) = false) (hb : (b == sysModules) = false)
    (da : s.heap.DictOfH knd a xs) (db : s.heap.DictOfH knd b ys) (hl : xs.length = ys.length) (hits : AllIn prog w A s xs ys) (h : Q true s) :
    wpAny (model prog w) A (Builtin.Dict.samePairs nm a b) Q E s := by
  refine NoI.keep (fun _ wNoI => ?_) ?_
  simp only [↓ NoI.wrOf wNoI (by
  clear wNoI
  obtain ⟨oa, es, ep, ga, _, ca, la, ka, na⟩ := da
  obtain ⟨ob, es', ep', gb, _, cb, lb, kb, nb⟩ := db
  have za : es.size = xs.length := size_of_entries la
  have zb : es'.size = ys.length := size_of_entries lb
  have zz : es.size = es'.size := by omega
  have na' : ¬ (a == sysModules) = true := by rw [ha]; decide
  have nb' : ¬ (b == sysModules) = true := by rw [hb]; decide
  unfold Builtin.Dict.samePairs Builtin.Dict.showsAll
  rw [if_neg na', if_neg nb']
  refine wpAny_bind (wpAny_pure (wpAny_bind (wpAny_pure (wpAny_bind (wpAny_dictEntries ga ca ?_)))))
  dsimp only
  refine wpAny_bind (wpAny_dictEntries gb cb ?_)
  have hne : ¬ (es.size != es'.size) = true := by rw [zz]; simp
  rw [if_neg hne]
  refine wpAny_bind (wpAny_dictEpoch ga ca (wpAny_bind ?_))
  rw [Std.Legacy.Range.forIn_eq_forIn_range']
  simp only [Std.Legacy.Range.size, Nat.sub_zero, Nat.add_sub_cancel, Nat.div_one]
  refine wpAny_forIn_list _ (fun rest q t => t = s ∧ q = (none, ()) ∧ ∃ i, i ≤ es.size ∧ rest = List.range' i (es.size - i)) _ ?_ ?_ _ _ ⟨rfl, rfl, 0, Nat.zero_le _, by simp⟩
  · rintro x rest q t ⟨rfl, rfl, i, hi, hr⟩
    have hlt : i < es.size := by
      apply Decidable.byContradiction
      intro z
      rw [show es.size - i = 0 by omega] at hr
      cases hr
    obtain ⟨rfl, hrest⟩ : x = i ∧ rest = List.range' (i + 1) (es.size - (i + 1)) := by
      rw [show es.size - i = (es.size - (i + 1)) + 1 by omega, List.range'_succ] at hr
      cases hr
      exact ⟨rfl, rfl⟩
    obtain ⟨⟨k, c, v⟩, hx⟩ : ∃ p, xs[x]? = some p := ⟨xs[x]'(by omega), List.getElem?_eq_getElem _⟩
    have hex : es[x]? = some ⟨knd.hash k, .ref c, v⟩ := by rw [entry_at la x, hx]; rfl
    obtain ⟨j, d, u, hy, he⟩ := hits x k c v hx
    refine wpAny_bind (wpAny_dictEntries ga ca ?_)
    rw [hex]
    refine wpAny_bind (wpAny_holding (wpAny_bind (wpAny_dictFind_heap hu (ka _ (List.mem_of_getElem? hx)) gb cb lb kb nb (fun hno => absurd hy (hno j _)) fun j2 p2 hj2 => ?_)))
    obtain rfl : j2 = j := idxH_unique nb hj2 hy
    rw [hy] at hj2
    cases hj2
    have hey : es'[j2]? = some ⟨knd.hash k, .ref d, u⟩ := by rw [entry_at lb j2, hy]; rfl
    refine wpAny_bind (wpAny_dictEntries gb cb ?_)
    rw [hey]
    refine wpAny_holding (he _ _ ?_)
    show wpAny _ _ (if (!true) = true then _ else _) _ _ _
    rw [if_neg (by decide)]
    refine wpAny_bind (wpAny_dictEpoch ga ca ?_)
    have hep : ¬ (ep != ep) = true := by simp
    rw [if_neg hep]
    exact wpAny_pure ⟨rfl, rfl, x + 1, hlt, hrest⟩
  · rintro q t ⟨rfl, rfl, i, hi, hr⟩
    exact wpAny_pure h
  )]
  intro _ hNoI
  simpa using (fun (_ : NoI.Sg) => hNoI) [5]
theorem rcX_dicts {a b : Addr} {xs ys : List (κ × Addr × Value)} (hu0 : knd.room A.in1) (ha : (a == sysModules) = false) (hb : (b == sysModules) = false) (da : s.heap.DictOfH knd a xs) (db : s.heap.DictOfH knd b ys) (hu : A.units < cLine)
    (hl : xs.length = ys.length) (hits : AllIn prog w A.in1 s xs ys) (E Q : Value → Shared → Prop) (h : Q (.bool true) s) : wpAny (model prog w) A (richCompare .Eq (.ref a) (.ref b)) Q E s := by
  refine NoI.keep (fun _ wNoI => ?_) ?_
  simp only [↓ NoI.wrOf wNoI (by
  clear wNoI
  refine wpAny_richCompare_same_room (op := .Eq) da.typeIs db.typeIs PySem.F.slot_dict_eq (wpAny_call_entry PySem.F.slot_dict_eq da.typeIs PySem.F.entry_dict_eq ?_ (PySem.F.args_dict_eq_2 _ _)) hu
  refine wpAny_bind ?_
  unfold Builtin.Dict.dictSlotArgs
  refine wpAny_bind (wpAny_notOrdered_dict da.typeIs (wpAny_pure (wpAny_bind (wpAny_isInstance (T := "dict") db.typeIs PySem.F.sub_dict_dict ?_))))
  simp only [Bool.not_true, Bool.false_eq_true, if_false]
  refine wpAny_bind (wpAny_pure (wpAny_bind (wpAny_pure (wpAny_bind (samePairsX hu0 ha hb da db hl hits (wpAny_pure ⟨_, rfl, (fun z => nomatch z : Value.bool _ ≠ Value.notImplemented), by simpa using h⟩))))))
  )]
  intro _ hNoI
  simpa using (fun (_ : NoI.Sg) => hNoI) [5]
end

/-! ### any data -/
section
variable {X : Cx} {pins : List (Addr × Obj)} {σ : L2.St} {H : Hp} {s : Shared}
theorem eqP_self {P : Program} {w : World} {A : Around} {u : Value} : SeqAt.EqP P w A s u u true := (SeqAt.EqAt.same _).eqP
theorem all_true {n : Nat} : (List.range n).all (fun _ => true) = true := by simp
theorem kd_fst {kvs us : List (Key × V)} {es : List (D × D)} (h1 : es.map (·.1) = kvs.map (fun p => kD p.1)) (h2 : es.map (·.1) = us.map (fun p => kD p.1)) : kvs.map (·.1) = us.map (·.1) := by
  refine NoI.keep (fun _ wNoI => ?_) ?_
  simp only [↓ NoI.wrOf wNoI (by
  clear wNoI
  rw [h1] at h2
  clear h1
  induction kvs generalizing us with
  | nil => cases us with
    | nil => rfl
    | cons u us => cases h2
  | cons p ps ih =>
    cases us with
    | nil => cases h2
    | cons u us =>
      simp only [List.map_cons, List.cons.injEq] at h2 ⊢
      refine ⟨?_, ih h2.2⟩
      have := h2.1
      revert this
      cases p.1 <;> cases u.1 <;> simp [kD]
  )]
  intro _ hNoI
  simpa using (fun (_ : NoI.Sg) => hNoI) [5]
theorem valueAt_at {κ : Type} [DecidableEq κ] : ∀ {vs : List (κ × Value)} {i : Nat} {k : κ} {v : Value}, (vs.map (·.1)).Nodup → vs[i]? = some (k, v) → valueAt vs k = some v
  | [], _, _, _, _, h => by simp at h
  | (k0, v0) :: r, 0, _, _, _, h => by simp at h; obtain ⟨rfl, rfl⟩ := h; simp [valueAt]
  | (k0, v0) :: r, i + 1, k, v, hn, h => by
    simp only [List.map_cons, List.nodup_cons] at hn
    simp only [List.getElem?_cons_succ] at h
    have : k0 ≠ k := fun e => hn.1 (List.mem_map.mpr ⟨_, List.mem_of_getElem? h, e.symm⟩)
    have ih := valueAt_at hn.2 h
    simpa [valueAt, this] using ih
theorem hits_all {P : Program} {w : World} {A : Around} {kb : List (Key × Value)} : ∀ {r : List (Key × Value)}, (∀ (i : Nat) (k : Key) (v : Value), r[i]? = some (k, v) → ∃ u, valueAt kb k = some u ∧ SeqAt.EqP P w A s v u true) → PySem.W.KeqHitsP P w A s kb r true
  | [], _ => .nil
  | (k, v) :: r, h => by
    obtain ⟨u, h1, h2⟩ := h 0 k v rfl
    have := PySem.W.KeqHitsP.hit h1 h2 (hits_all (r := r) fun i k v e => h (i + 1) k v (by simpa using e))
    simpa using this
end
/-- a comparison of items that tell the same -/
def EqDs (X : Cx) (s : Shared) (us ws : List Value) (n : Nat) : Prop := us.length = ws.length ∧ ∀ A : Around, A.units + n + 16 < cLine → ∀ (j : Nat) (u w : Value), us[j]? = some u → ws[j]? = some w → SeqAt.EqP X.prog X.w A s u w true
theorem EqDs.cons {X : Cx} {s : Shared} {u w : Value} {us ws : List Value} {n : Nat} (h : ∀ A : Around, A.units + n + 16 < cLine → SeqAt.EqP X.prog X.w A s u w true) (t : EqDs X s us ws n) : EqDs X s (u :: us) (w :: ws) n :=
  ⟨by simp [t.1], fun A hu j a b ha hb => by
    cases j with
    | zero => simp at ha hb; subst ha hb; exact h A hu
    | succ j => exact t.2 A hu j a b (by simpa using ha) (by simpa using hb)⟩
theorem EqDs.less {X : Cx} {s : Shared} {us ws : List Value} {n m : Nat} (h : EqDs X s us ws n) (e : n ≤ m) : EqDs X s us ws m := ⟨h.1, fun A hu => h.2 A (by omega)⟩
section
variable {X : Cx} {pins : List (Addr × Obj)} {σ : L2.St} {H : Hp} {s : Shared}
theorem xes_val : ∀ {xs : List XE} {ys : List (NestedKey × Addr × Value)}, XEs xs ys → Vals (xs.map (·.2.2)) (ys.map (·.2.2))
  | _, _, .nil => .nil
  | _, _, .cons r t => .cons r.2.2 (xes_val t)
theorem xes_key : ∀ {xs : List XE} {ys : List (NestedKey × Addr × Value)}, XEs xs ys → xs.map (·.1) = ys.map (·.1)
  | _, _, .nil => rfl
  | _, _, .cons r t => by rw [List.map_cons, List.map_cons, xes_key t, r.1]
theorem kv_val : ∀ {xs : List (Key × V)} {ys : List (Key × Value)}, KV xs ys → Vals (xs.map (·.2)) (ys.map (·.2))
  | _, _, .nil => .nil
  | _, _, .cons r t => .cons r.2 (kv_val t)
theorem dks_keys [WW] {K : PySem.W.Frag} {H : Hp} : ∀ {xs : List XE} {es : List (D × D)}, DKs K H xs es → es.map (·.1) = xs.map (·.1.data)
  | _, _, .nil => rfl
  | _, _, .cons _ _ t => by rw [List.map_cons, List.map_cons, dks_keys t]
theorem dks_vals [WW] {K : PySem.W.Frag} {H : Hp} : ∀ {xs : List XE} {es : List (D × D)}, DKs K H xs es → DVs K H (xs.map (·.2.2)) (es.map (·.2))
  | _, _, .nil => .nil
  | _, _, .cons _ h t => .cons h (dks_vals t)

/-- a dict with tuple keys, or an empty one -/
def IsXe [WW] (H : Hp) (a : Addr) (xs : List XE) : Prop := Rd H a (DXo a xs) ∨ (xs = [] ∧ Rd H a (.dK []))
theorem isxe_of (I : L2.Inv X pins σ H s) {a : Addr} {xs : List XE} {es : List (D × D)} (e : @IsXe ⟨X.w⟩ H a xs) (h : @DKs ⟨X.w⟩ X.K H xs es) :
    ∃ ys, XEs xs ys ∧ s.heap.DictOfH (nestedKind X.prog X.w) a ys ∧ (a == sysModules) = false := by
  refine NoI.keep (fun _ wNoI => ?_) ?_
  simp only [↓ NoI.wrOf wNoI (by
  clear wNoI
  rcases e with e | ⟨rfl, e⟩
  · obtain ⟨ys, h1, h2, _, h4⟩ := dx_of I e h
    exact ⟨ys, h1, h2, h4⟩
  · obtain ⟨h1, h2⟩ := dk_nil I e
    exact ⟨[], .nil, h1, h2⟩
  )]
  intro _ hNoI
  simpa using (fun (_ : NoI.Sg) => hNoI) [5]
mutual
theorem nd_injE : ∀ (a b : NestedKey), a.data = b.data → a = b
  | .none, .none, _ => rfl
  | .num i, .num j, h => by simp only [NestedKey.data, PyData.int.injEq] at h; rw [h]
  | .text i, .text j, h => by simp only [NestedKey.data, PyData.str.injEq] at h; rw [h]
  | .tup i, .tup j, h => by simp only [NestedKey.data, PyData.tuple.injEq] at h; rw [nds_injE i j h]
  | .none, .num _, h | .none, .text _, h | .none, .tup _, h => by simp [NestedKey.data] at h
  | .num _, .none, h | .num _, .text _, h | .num _, .tup _, h => by simp [NestedKey.data] at h
  | .text _, .none, h | .text _, .num _, h | .text _, .tup _, h => by simp [NestedKey.data] at h
  | .tup _, .none, h | .tup _, .num _, h | .tup _, .text _, h => by simp [NestedKey.data] at h
theorem nds_injE : ∀ (a b : List NestedKey), NestedKey.datas a = NestedKey.datas b → a = b
  | [], [], _ => rfl
  | a :: as, b :: bs, h => by
    simp only [NestedKey.datas, List.cons.injEq] at h
    rw [nd_injE a b h.1, nds_injE as bs h.2]
  | [], _ :: _, h => by simp [NestedKey.datas] at h
  | _ :: _, [], h => by simp [NestedKey.datas] at h
end
/-- keys that are ints and strings, and keys that are objects: none -/
theorem dk_noX [WW] {K : PySem.W.Frag} {H : Hp} {kvs : List (Key × V)} {xs : List XE} {es : List (D × D)} (h1 : es.map (·.1) = kvs.map (fun p => kD p.1)) (h2 : DKs K H xs es) : es = [] ∧ kvs = [] := by
  refine NoI.keep (fun _ wNoI => ?_) ?_
  simp only [↓ NoI.wrOf wNoI (by
  clear wNoI
  cases h2 with
  | nil => cases kvs with
    | nil => exact ⟨rfl, rfl⟩
    | cons p r => simp at h1
  | cons a1 a2 a3 =>
    cases kvs with
    | nil => simp at h1
    | cons p r =>
      simp only [List.map_cons, List.cons.injEq] at h1
      have h := h1.1
      obtain ⟨k, v⟩ := p
      rw [h] at a1
      cases k <;> cases a1
  )]
  intro _ hNoI
  simpa using (fun (_ : NoI.Sg) => hNoI) [5]
/-- dicts with keys that are objects, of the same entries -/
theorem allIn_of {P : Program} {w : World} {A : Around} {xs ys : List (NestedKey × Addr × Value)} (hk : xs.map (·.1) = ys.map (·.1)) (h : ∀ (j : Nat) (u w' : Value), (xs.map (·.2.2))[j]? = some u → (ys.map (·.2.2))[j]? = some w' → SeqAt.EqP P w A s u w' true) :
    AllIn P w A s xs ys := fun i k b v hx => by
  have hl : xs.length = ys.length := by have := congrArg List.length hk; simpa using this
  have hi := (List.getElem?_eq_some_iff.mp hx).1
  obtain ⟨⟨k', c, u⟩, hy⟩ : ∃ p, ys[i]? = some p := ⟨ys[i]'(by omega), List.getElem?_eq_getElem _⟩
  have e : (xs.map (·.1))[i]? = (ys.map (·.1))[i]? := by rw [hk]
  rw [List.getElem?_map, List.getElem?_map, hx, hy] at e
  simp only [Option.map_some, Option.some.injEq] at e
  subst e
  exact ⟨i, c, u, hy, h i v u (by rw [List.getElem?_map, hx]; rfl) (by rw [List.getElem?_map, hy]; rfl)⟩
/-- == of two objects that tell the same -/
def RcS (X : Cx) (s : Shared) (A : Around) (a b : Addr) : Prop := ∀ E Q : Value → Shared → Prop, Q (.bool true) s → wpAny (model X.prog X.w) A (richCompare .Eq (.ref a) (.ref b)) Q E s
theorem RcS.eqP {X : Cx} {s : Shared} {A : Around} {a b : Addr} (h : RcS X s A a b) : SeqAt.EqP X.prog X.w A s (.ref a) (.ref b) true := by
  by_cases e : a = b
  · subst e; exact eqP_self
  · exact SeqAt.eqP_refs e h
theorem dX_rc (I : L2.Inv X pins σ H s) {a b : Addr} {xs ys : List XE} {es : List (D × D)} {n : Nat} (ha : @IsXe ⟨X.w⟩ H a xs) (hb : @IsXe ⟨X.w⟩ H b ys) (da : @DKs ⟨X.w⟩ X.K H xs es) (db : @DKs ⟨X.w⟩ X.K H ys es)
    (ih : ∀ us ws, Vals (xs.map (·.2.2)) us → Vals (ys.map (·.2.2)) ws → EqDs X s us ws n) (A : Around) (hu : A.units + (n + 1) + 16 < cLine) : RcS X s A a b := by
  refine NoI.keep (fun _ wNoI => ?_) ?_
  simp only [↓ NoI.wrOf wNoI (by
  clear wNoI
  obtain ⟨xa, ra, Da, sa⟩ := isxe_of I ha da
  obtain ⟨xb, rb, Db, sb⟩ := isxe_of I hb db
  have hk : xa.map (·.1) = xb.map (·.1) := by
    have h1 := @dks_keys ⟨X.w⟩ _ _ _ _ da
    rw [@dks_keys ⟨X.w⟩ _ _ _ _ db] at h1
    rw [← xes_key ra, ← xes_key rb]
    have : (ys.map (·.1)).map NestedKey.data = (xs.map (·.1)).map NestedKey.data := by rw [List.map_map, List.map_map]; exact h1
    exact ((List.map_inj_right (fun p q z => nd_injE p q z)).mp this).symm
  have hd := ih _ _ (xes_val ra) (xes_val rb)
  have hl : xa.length = xb.length := by have := congrArg List.length hk; simpa using this
  exact fun E Q q => rcX_dicts (by show A.units + 1 + 8 < cLine; omega) sa sb Da Db (by omega) hl (allIn_of hk fun j u w' h1 h2 => hd.2 A.in1 (by show A.units + 1 + n + 16 < cLine; omega) j u w' h1 h2) E Q q
  )]
  intro _ hNoI
  simpa using (fun (_ : NoI.Sg) => hNoI) [5]
theorem dK_rc (I : L2.Inv X pins σ H s) {a b : Addr} {xs ys : List (Key × V)} {es : List (D × D)} {n : Nat} (ha : Rd H a (.dK xs)) (hb : Rd H b (.dK ys)) (da : es.map (·.1) = xs.map (fun p => kD p.1)) (db : es.map (·.1) = ys.map (fun p => kD p.1))
    (ih : ∀ us ws, Vals (xs.map (·.2)) us → Vals (ys.map (·.2)) ws → EqDs X s us ws n) (A : Around) (hu : A.units + (n + 1) + 16 < cLine) : RcS X s A a b := by
  refine NoI.keep (fun _ wNoI => ?_) ?_
  simp only [↓ NoI.wrOf wNoI (by
  clear wNoI
  obtain ⟨_, sa, va, ra, Da⟩ := dk_rd I.hok ha
  obtain ⟨_, sb, vb, rb, Db⟩ := dk_rd I.hok hb
  have hk : va.map (·.1) = vb.map (·.1) := by rw [← ra.keys, ← rb.keys]; exact kd_fst da db
  have hd := ih _ _ (kv_val ra) (kv_val rb)
  have hl : va.length = vb.length := by have := congrArg List.length hk; simpa using this
  obtain ⟨_, _, _, _, _, _, _, _, nb⟩ := id Db
  refine fun E Q q => PySem.W.rcP_dicts sa sb Da Db (by omega) (fun _ => hits_all (r := va) fun i k v hi => ?_) E Q (by rw [hl]; simpa using q)
  have hlt := (List.getElem?_eq_some_iff.mp hi).1
  obtain ⟨⟨k', u⟩, hy⟩ : ∃ p, vb[i]? = some p := ⟨vb[i]'(by omega), List.getElem?_eq_getElem _⟩
  have e2 : (va.map (·.1))[i]? = (vb.map (·.1))[i]? := by rw [hk]
  rw [List.getElem?_map, List.getElem?_map, hi, hy] at e2
  simp only [Option.map_some, Option.some.injEq] at e2
  subst e2
  exact ⟨u, valueAt_at nb hy, hd.2 A.in1 (by show A.units + 1 + n + 16 < cLine; omega) i v u (by rw [List.getElem?_map, hi]; rfl) (by rw [List.getElem?_map, hy]; rfl)⟩
  )]
  intro _ hNoI
  simpa using (fun (_ : NoI.Sg) => hNoI) [5]
theorem lst_rc (I : L2.Inv X pins σ H s) {a b : Addr} {xs ys : List V} {n : Nat} (ha : H a = some (.lst xs)) (hb : H b = some (.lst ys)) (ih : ∀ us ws, Vals xs us → Vals ys ws → EqDs X s us ws n) (A : Around) (hu : A.units + (n + 1) + 16 < cLine) : RcS X s A a b := by
  refine NoI.keep (fun _ wNoI => ?_) ?_
  simp only [↓ NoI.wrOf wNoI (by
  clear wNoI
  obtain ⟨us, ru, ⟨o1, n1, g1, c1, _, d1⟩, _⟩ := I.list (X := X) (SqL.of ha)
  obtain ⟨ws, rw', ⟨o2, n2, g2, c2, _, d2⟩, _⟩ := I.list (X := X) (SqL.of hb)
  have hd := ih _ _ ru rw'
  refine fun E Q q => SeqAt.rcP_lists (e := fun _ => true) ⟨o1, g1, c1, n1, d1⟩ ⟨o2, g2, c2, n2, d2⟩ (by simpa using hd.1) (by omega) (fun j h1 h2 => hd.2 A.in1 (by show A.units + 1 + n + 16 < cLine; omega) j _ _ (by simp) (by simp)) E Q (by rw [all_true]; exact q)
  )]
  intro _ hNoI
  simpa using (fun (_ : NoI.Sg) => hNoI) [5]
theorem tup_rc (I : L2.Inv X pins σ H s) {a b : Addr} {xs ys : List V} {n : Nat} (ha : SqT X.K H a xs) (hb : SqT X.K H b ys) (ih : ∀ us ws, Vals xs us → Vals ys ws → EqDs X s us ws n) (A : Around) (hu : A.units + (n + 1) + 16 < cLine) : RcS X s A a b := by
  refine NoI.keep (fun _ wNoI => ?_) ?_
  simp only [↓ NoI.wrOf wNoI (by
  clear wNoI
  obtain ⟨us, ru, ⟨o1, g1, c1, n1, d1⟩, _⟩ := I.tuple ha
  obtain ⟨ws, rw', ⟨o2, g2, c2, n2, d2⟩, _⟩ := I.tuple hb
  have hd := ih _ _ ru rw'
  refine fun E Q q => SeqAt.rcIn_tuples (e := fun _ => true) ⟨o1, g1, c1, n1, d1⟩ ⟨o2, g2, c2, n2, d2⟩ (by omega) (fun j h1 h2 => hd.2 A.in1 (by show A.units + 1 + n + 16 < cLine; omega) j _ _ (by simp) (by simp)) (by rw [all_true]; simpa [hd.1] using q)
  )]
  intro _ hNoI
  simpa using (fun (_ : NoI.Sg) => hNoI) [5]
mutual
theorem eqD (I : L2.Inv X pins σ H s) : ∀ (d : D) (x y : V) (u w : Value), @DV ⟨X.w⟩ X.K H x d → @DV ⟨X.w⟩ X.K H y d → RelV x u → RelV y w → ∀ A : Around, A.units + d.depth + 16 < cLine → SeqAt.EqP X.prog X.w A s u w true
  | .none, _, _, _, _, h1, h2, r1, r2, A, hu => by
    cases h1; cases h2; cases r1; cases r2
    exact eqP_self
  | .bool b, _, _, _, _, h1, h2, r1, r2, A, hu => by
    cases h1; cases h2; cases r1; cases r2
    exact eqP_self
  | .int i, _, _, _, _, h1, h2, r1, r2, A, hu => by
    cases h1; cases h2
    obtain ⟨t1, rfl⟩ := r1
    obtain ⟨t2, rfl⟩ := r2
    have := PySem.W.keq_flat (A := A) (s := s) (v := .int i t1) (y := .int i t2) (d := .int i) (e := .int i) (.int i t1) (.int i t2)
    rw [show PyData.eqv (.int i) (.int i) = true by simp [PyData.eqv]] at this
    exact this.eqP
  | .str z, _, _, _, _, h1, h2, r1, r2, A, hu => by
    cases h1; cases h2
    obtain ⟨t1, rfl⟩ := r1
    obtain ⟨t2, rfl⟩ := r2
    have := PySem.W.keq_flat (A := A) (s := s) (v := .str z t1) (y := .str z t2) (d := .str z) (e := .str z) (.str z t1) (.str z t2)
    rw [show PyData.eqv (.str z) (.str z) = true by simp [PyData.eqv]] at this
    exact this.eqP
  | .list ds, _, _, _, _, h1, h2, r1, r2, A, hu => by
    cases h1 with
    | lst a1 b1 =>
      cases h2 with
      | lst a2 b2 =>
        cases r1; cases r2
        exact RcS.eqP (lst_rc I a1 a2 (fun us ws q1 q2 => eqDs I ds _ _ us ws b1 b2 q1 q2) A (by simpa [PyData.depth] using hu))
  | .tuple ds, _, _, _, _, h1, h2, r1, r2, A, hu => by
    cases h1 with
    | tup a1 b1 =>
      cases h2 with
      | tup a2 b2 =>
        cases r1; cases r2
        exact RcS.eqP (tup_rc I (@TupD.sq ⟨X.w⟩ _ _ _ _ _ a1) (@TupD.sq ⟨X.w⟩ _ _ _ _ _ a2) (fun us ws q1 q2 => eqDs I ds _ _ us ws b1 b2 q1 q2) A (by simpa [PyData.depth] using hu))
  | .dict es, _, _, _, _, h1, h2, r1, r2, A, hu => by
    have hu : A.units + (PyData.depthKv es + 1) + 16 < cLine := by simpa [PyData.depth] using hu
    cases h1 with
    | dK a1 b1 c1 =>
      cases h2 with
      | dK a2 b2 c2 =>
        cases r1; cases r2
        exact RcS.eqP (dK_rc I a1 a2 b1 b2 (fun us ws q1 q2 => eqKs I es _ _ us ws c1 c2 q1 q2) A hu)
      | dX a2 b2 =>
        cases r1; cases r2
        obtain ⟨rfl, rfl⟩ := @dk_noX ⟨X.w⟩ _ _ _ _ _ b1 b2
        cases b2
        exact RcS.eqP (dX_rc I (xs := []) (es := []) (n := PyData.depthKv []) (.inr ⟨rfl, a1⟩) (.inl a2) (@DKs.nil ⟨X.w⟩ _ _) (@DKs.nil ⟨X.w⟩ _ _) (fun us ws q1 q2 => by cases q1; cases q2; exact ⟨rfl, fun _ _ _ _ _ h => by simp at h⟩) A hu)
    | dX a1 b1 =>
      cases h2 with
      | dK a2 b2 c2 =>
        cases r1; cases r2
        obtain ⟨rfl, rfl⟩ := @dk_noX ⟨X.w⟩ _ _ _ _ _ b2 b1
        cases b1
        exact RcS.eqP (dX_rc I (ys := []) (es := []) (n := PyData.depthKv []) (.inl a1) (.inr ⟨rfl, a2⟩) (@DKs.nil ⟨X.w⟩ _ _) (@DKs.nil ⟨X.w⟩ _ _) (fun us ws q1 q2 => by cases q1; cases q2; exact ⟨rfl, fun _ _ _ _ _ h => by simp at h⟩) A hu)
      | dX a2 b2 =>
        cases r1; cases r2
        exact RcS.eqP (dX_rc I (.inl a1) (.inl a2) b1 b2 (fun us ws q1 q2 => eqKs I es _ _ us ws (@dks_vals ⟨X.w⟩ _ _ _ _ b1) (@dks_vals ⟨X.w⟩ _ _ _ _ b2) q1 q2) A hu)
theorem eqDs (I : L2.Inv X pins σ H s) : ∀ (ds : List D) (xs ys : List V) (us ws : List Value), @DVs ⟨X.w⟩ X.K H xs ds → @DVs ⟨X.w⟩ X.K H ys ds → Vals xs us → Vals ys ws → EqDs X s us ws (PyData.depthAll ds)
  | [], _, _, _, _, h1, h2, r1, r2 => by
    cases h1; cases h2; cases r1; cases r2
    exact ⟨rfl, fun _ _ _ _ _ h => by simp at h⟩
  | d :: ds, _, _, _, _, h1, h2, r1, r2 => by
    cases h1 with
    | cons a1 b1 =>
      cases h2 with
      | cons a2 b2 =>
        cases r1 with
        | cons p1 q1 =>
          cases r2 with
          | cons p2 q2 =>
            have z : PyData.depthAll (d :: ds) = max d.depth (PyData.depthAll ds) := by simp [PyData.depthAll]
            rw [z]
            exact .cons (fun A hu => eqD I d _ _ _ _ a1 a2 p1 p2 A (by omega)) ((eqDs I ds _ _ _ _ b1 b2 q1 q2).less (by omega))
theorem eqKs (I : L2.Inv X pins σ H s) : ∀ (es : List (D × D)) (xs ys : List V) (us ws : List Value), @DVs ⟨X.w⟩ X.K H xs (es.map (·.2)) → @DVs ⟨X.w⟩ X.K H ys (es.map (·.2)) → Vals xs us → Vals ys ws → EqDs X s us ws (PyData.depthKv es)
  | [], _, _, _, _, h1, h2, r1, r2 => by
    cases h1; cases h2; cases r1; cases r2
    exact ⟨rfl, fun _ _ _ _ _ h => by simp at h⟩
  | (k, d) :: es, _, _, _, _, h1, h2, r1, r2 => by
    cases h1 with
    | cons a1 b1 =>
      cases h2 with
      | cons a2 b2 =>
        cases r1 with
        | cons p1 q1 =>
          cases r2 with
          | cons p2 q2 =>
            have z : PyData.depthKv ((k, d) :: es) = max (max k.depth d.depth) (PyData.depthKv es) := by simp [PyData.depthKv]
            rw [z]
            exact .cons (fun A hu => eqD I d _ _ _ _ a1 a2 p1 p2 A (by omega)) ((eqKs I es _ _ _ _ b1 b2 q1 q2).less (by omega))
end
/-- lists, tuples, dicts -/
def boxD : D → Bool
  | .list _ => true
  | .tuple _ => true
  | .dict _ => true
  | _ => false
theorem rcD (I : L2.Inv X pins σ H s) {d : D} {x y : V} {u w : Value} (hb : boxD d = true) (h1 : @DV ⟨X.w⟩ X.K H x d) (h2 : @DV ⟨X.w⟩ X.K H y d) (r1 : RelV x u) (r2 : RelV y w) (A : Around) (hu : A.units + d.depth + 16 < cLine) :
    ∃ a b, u = .ref a ∧ w = .ref b ∧ RcS X s A a b := by
  refine NoI.keep (fun _ wNoI => ?_) ?_
  simp only [↓ NoI.wrOf wNoI (by
  clear wNoI
  cases h1 with
  | non => cases hb
  | bl _ => cases hb
  | int _ => cases hb
  | str _ => cases hb
  | lst a1 b1 =>
    cases h2 with
    | lst a2 b2 =>
      cases r1; cases r2
      exact ⟨_, _, rfl, rfl, lst_rc I a1 a2 (fun us ws q1 q2 => eqDs I _ _ _ us ws b1 b2 q1 q2) A (by simpa [PyData.depth] using hu)⟩
  | tup a1 b1 =>
    cases h2 with
    | tup a2 b2 =>
      cases r1; cases r2
      exact ⟨_, _, rfl, rfl, tup_rc I (@TupD.sq ⟨X.w⟩ _ _ _ _ _ a1) (@TupD.sq ⟨X.w⟩ _ _ _ _ _ a2) (fun us ws q1 q2 => eqDs I _ _ _ us ws b1 b2 q1 q2) A (by simpa [PyData.depth] using hu)⟩
  | @dK _ _ es a1 b1 c1 =>
    have hu : A.units + (PyData.depthKv es + 1) + 16 < cLine := by simpa [PyData.depth] using hu
    cases h2 with
    | dK a2 b2 c2 =>
      cases r1; cases r2
      exact ⟨_, _, rfl, rfl, dK_rc I a1 a2 b1 b2 (fun us ws q1 q2 => eqKs I es _ _ us ws c1 c2 q1 q2) A hu⟩
    | dX a2 b2 =>
      cases r1; cases r2
      obtain ⟨rfl, rfl⟩ := @dk_noX ⟨X.w⟩ _ _ _ _ _ b1 b2
      cases b2
      exact ⟨_, _, rfl, rfl, dX_rc I (xs := []) (es := []) (n := PyData.depthKv []) (.inr ⟨rfl, a1⟩) (.inl a2) (@DKs.nil ⟨X.w⟩ _ _) (@DKs.nil ⟨X.w⟩ _ _) (fun us ws q1 q2 => by cases q1; cases q2; exact ⟨rfl, fun _ _ _ _ _ h => by simp at h⟩) A hu⟩
  | @dX _ _ es a1 b1 =>
    have hu : A.units + (PyData.depthKv es + 1) + 16 < cLine := by simpa [PyData.depth] using hu
    cases h2 with
    | dK a2 b2 c2 =>
      cases r1; cases r2
      obtain ⟨rfl, rfl⟩ := @dk_noX ⟨X.w⟩ _ _ _ _ _ b2 b1
      cases b1
      exact ⟨_, _, rfl, rfl, dX_rc I (ys := []) (es := []) (n := PyData.depthKv []) (.inl a1) (.inr ⟨rfl, a2⟩) (@DKs.nil ⟨X.w⟩ _ _) (@DKs.nil ⟨X.w⟩ _ _) (fun us ws q1 q2 => by cases q1; cases q2; exact ⟨rfl, fun _ _ _ _ _ h => by simp at h⟩) A hu⟩
    | dX a2 b2 =>
      cases r1; cases r2
      exact ⟨_, _, rfl, rfl, dX_rc I (.inl a1) (.inl a2) b1 b2 (fun us ws q1 q2 => eqKs I es _ _ us ws (@dks_vals ⟨X.w⟩ _ _ _ _ b1) (@dks_vals ⟨X.w⟩ _ _ _ _ b2) q1 q2) A hu⟩
  )]
  intro _ hNoI
  simpa using (fun (_ : NoI.Sg) => hNoI) [5]
/-- x == y, of two that tell the same -/
def rEqV [WW] (K : PySem.W.Frag) : R2 := fun x y H Q => ∃ d, DV K H x d ∧ DV K H y d ∧ d.depth ≤ 40 ∧ Q (.bl true) H
theorem op_eqV {X : Cx} (hu : X.A.units + 64 < cLine) : OpR X (compareOp .Eq) (@rEqV ⟨X.w⟩ X.K) := by
  refine NoI.keep (fun _ wNoI => ?_) ?_
  simp only [↓ NoI.wrOf wNoI (by
  clear wNoI
  intro pins s σ H x y v u Q I rx ry h
  obtain ⟨d, hd, he, hz, q⟩ := h
  cases hb : boxD d with
  | true =>
    obtain ⟨a, b, rfl, rfl, R⟩ := rcD I hb hd he rx ry X.A (by omega)
    exact R _ _ ⟨.bl true, H, I, rfl, q⟩
  | false =>
    have flat : ∃ z : V, x = z ∧ y = z ∧ scal z z = true := by
      cases d with
      | none => cases hd; cases he; exact ⟨_, rfl, rfl, rfl⟩
      | bool b => cases hd; cases he; exact ⟨_, rfl, rfl, rfl⟩
      | int i => cases hd; cases he; exact ⟨_, rfl, rfl, rfl⟩
      | str z => cases hd; cases he; exact ⟨_, rfl, rfl, rfl⟩
      | list _ => cases hb
      | tuple _ => cases hb
      | dict _ => cases hb
    obtain ⟨z, rfl, rfl, hs⟩ := flat
    exact op_eq pins s σ H _ _ v u Q I rx ry ⟨hs, by rw [decide_eq_true rfl]; exact q⟩
  )]
  intro _ hNoI
  simpa using (fun (_ : NoI.Sg) => hNoI) [5]
end
end SH

/-! dicts whose keys are tuples: d[k], k in d, d[k] = v, dict(pairs) -/
namespace SH
open PySem PySem.Spec PyProof.Rows L2
section
variable [WW] {K : PySem.W.Frag} {H : Hp}
/-- a dict with tuple keys, or an empty one -/
def IsX (H : Hp) (a : Addr) (xs : List XE) : Prop := Rd H a (DXo a xs) ∨ (xs = [] ∧ Rd H a (.dK []))
/-- .. that may be written -/
def IsXw (H : Hp) (a : Addr) (xs : List XE) : Prop := H a = some (DXo a xs) ∨ (xs = [] ∧ H a = some (.dK []))
theorem IsXw.rd {a : Addr} {xs : List XE} (h : IsXw H a xs) : IsX H a xs := h.imp .inl fun h => ⟨h.1, .inl h.2⟩
theorem IsXw.mut {a : Addr} {xs : List XE} (h : IsXw H a xs) : Mut (H a) := by
  rcases h with h | ⟨_, h⟩ <;> (rw [h]; exact True.intro)
abbrev TK := List NestedKey
def kx (k : TK) : D := .tuple (NestedKey.datas k)
def dx (es : List (TK × D)) : List (D × D) := es.map fun p => (kx p.1, p.2)
mutual
theorem nd_inj : ∀ (a b : NestedKey), a.data = b.data → a = b
  | .none, .none, _ => rfl
  | .num i, .num j, h => by simp only [NestedKey.data, PyData.int.injEq] at h; rw [h]
  | .text i, .text j, h => by simp only [NestedKey.data, PyData.str.injEq] at h; rw [h]
  | .tup i, .tup j, h => by simp only [NestedKey.data, PyData.tuple.injEq] at h; rw [nds_inj i j h]
  | .none, .num _, h | .none, .text _, h | .none, .tup _, h => by simp [NestedKey.data] at h
  | .num _, .none, h | .num _, .text _, h | .num _, .tup _, h => by simp [NestedKey.data] at h
  | .text _, .none, h | .text _, .num _, h | .text _, .tup _, h => by simp [NestedKey.data] at h
  | .tup _, .none, h | .tup _, .num _, h | .tup _, .text _, h => by simp [NestedKey.data] at h
theorem nds_inj : ∀ (a b : List NestedKey), NestedKey.datas a = NestedKey.datas b → a = b
  | [], [], _ => rfl
  | a :: as, b :: bs, h => by
    simp only [NestedKey.datas, List.cons.injEq] at h
    rw [nd_inj a b h.1, nds_inj as bs h.2]
  | [], _ :: _, h => by simp [NestedKey.datas] at h
  | _ :: _, [], h => by simp [NestedKey.datas] at h
end
/-- entries with tuples for keys -/
inductive KX (K : PySem.W.Frag) (H : Hp) : List XE → List (TK × D) → Prop
  | nil : KX K H [] []
  | cons {k : TK} {a : Addr} {v : V} {d : D} {xs : List XE} {es : List (TK × D)} : DV K H (.ref a) (kx k) → DV K H v d → KX K H xs es → KX K H ((.tup k, a, v) :: xs) ((k, d) :: es)
theorem KX.dks : ∀ {xs : List XE} {es : List (TK × D)}, KX K H xs es → DKs K H xs (dx es)
  | _, _, .nil => .nil
  | _, _, .cons h1 h2 h3 => .cons (k := .tup _) h1 h2 h3.dks
theorem KX.of : ∀ {xs : List XE} {es : List (TK × D)}, DKs K H xs (dx es) → KX K H xs es
  | [], [], _ => .nil
  | (k, a, v) :: xs, (j, d) :: es, h => by
    generalize hq : dx ((j, d) :: es) = q at h
    cases h with
    | cons h1 h2 h3 =>
      simp only [dx, List.map_cons, List.cons.injEq, Prod.mk.injEq] at hq
      obtain ⟨⟨q1, q2⟩, q3⟩ := hq
      have : k = .tup j := nd_inj _ _ (by rw [← q1]; rfl)
      subst this
      rw [← q2] at h2
      rw [← q3] at h3
      exact .cons h1 h2 (KX.of h3)
  | [], _ :: _, h => by simp only [dx, List.map_cons] at h; cases h
  | _ :: _, [], h => by simp only [dx, List.map_nil] at h; cases h
theorem KX.mono {H' : Hp} (e : Same H H') : ∀ {xs : List XE} {es : List (TK × D)}, KX K H xs es → KX K H' xs es
  | _, _, .nil => .nil
  | _, _, .cons h1 h2 h3 => .cons (dp_mono e _ _ h1) (dp_mono e _ _ h2) (h3.mono e)
theorem KX.len : ∀ {xs : List XE} {es : List (TK × D)}, KX K H xs es → xs.length = es.length
  | _, _, .nil => rfl
  | _, _, .cons _ _ h3 => by simp [h3.len]
/-- int and string keys are no tuples -/
theorem dk_dx {kvs : List (Key × V)} {es : List (TK × D)} (h : (dx es).map (·.1) = kvs.map (fun p => kD p.1)) : es = [] ∧ kvs = [] := by
  refine NoI.keep (fun _ wNoI => ?_) ?_
  simp only [↓ NoI.wrOf wNoI (by
  clear wNoI
  cases es with
  | nil => cases kvs with
    | nil => exact ⟨rfl, rfl⟩
    | cons p r => simp [dx] at h
  | cons e es =>
    cases kvs with
    | nil => simp [dx] at h
    | cons p r =>
      simp only [dx, List.map_cons, List.cons.injEq] at h
      have h := h.1
      obtain ⟨k, v⟩ := p
      cases k <;> simp [kD, kx] at h
  )]
  intro _ hNoI
  simpa using (fun (_ : NoI.Sg) => hNoI) [5]
theorem cell_x {a : Addr} {o : HO} {es : List (TK × D)} (h : Cell K H a o (.dict (dx es))) : ∃ xs, KX K H xs es ∧ (o = DXo a xs ∨ (xs = [] ∧ o = .dK [])) := by
  refine NoI.keep (fun _ wNoI => ?_) ?_
  simp only [↓ NoI.wrOf wNoI (by
  clear wNoI
  generalize hq : dx es = q at h
  cases h with
  | dK h2 h3 =>
    subst hq
    obtain ⟨rfl, rfl⟩ := dk_dx h2
    exact ⟨[], .nil, .inr ⟨rfl, rfl⟩⟩
  | dX h2 =>
    subst hq
    exact ⟨_, KX.of h2, .inl rfl⟩
  )]
  intro _ hNoI
  simpa using (fun (_ : NoI.Sg) => hNoI) [5]
theorem dv_x {v : V} {es : List (TK × D)} (h : DV K H v (.dict (dx es))) : ∃ a xs, v = .ref a ∧ KX K H xs es ∧ IsX H a xs := by
  refine NoI.keep (fun _ wNoI => ?_) ?_
  simp only [↓ NoI.wrOf wNoI (by
  clear wNoI
  generalize hq : dx es = q at h
  cases h with
  | dK h1 h2 h3 =>
    subst hq
    obtain ⟨rfl, rfl⟩ := dk_dx h2
    exact ⟨_, [], rfl, .nil, .inr ⟨rfl, h1⟩⟩
  | dX h1 h2 =>
    subst hq
    exact ⟨_, _, rfl, KX.of h2, .inl h1⟩
  )]
  intro _ hNoI
  simpa using (fun (_ : NoI.Sg) => hNoI) [5]
end
theorem isx_of {X : Cx} {pins : List (Addr × Obj)} {σ : L2.St} {H : Hp} {s : Shared} {a : Addr} {xs : List XE} {es : List (D × D)} (I : L2.Inv X pins σ H s) (e : @IsX ⟨X.w⟩ H a xs) (h : @DKs ⟨X.w⟩ X.K H xs es) :
    ∃ ys, XEs xs ys ∧ s.heap.DictOfH (nestedKind X.prog X.w) a ys ∧ (xs.length ≤ sizeLine ∧ ∀ x ∈ xs, x.1.depth ≤ 8) ∧ (a == sysModules) = false := by
  refine NoI.keep (fun _ wNoI => ?_) ?_
  simp only [↓ NoI.wrOf wNoI (by
  clear wNoI
  rcases e with e | ⟨rfl, e⟩
  · obtain ⟨ys, h1, h2, h3, h4⟩ := dx_of I e h
    exact ⟨ys, h1, h2, h3, h4⟩
  · obtain ⟨h1, h2⟩ := dk_nil I e
    exact ⟨[], .nil, h1, ⟨Nat.zero_le _, by simp⟩, h2⟩
  )]
  intro _ hNoI
  simpa using (fun (_ : NoI.Sg) => hNoI) [5]
/-- what is held at a key -/
def lkX (es : List (TK × D)) (k : TK) : Option D := (es.find? fun p => decide (p.1 = k)).map (·.2)
def ptX (es : List (TK × D)) (k : TK) (d : D) : List (TK × D) := if (lkX es k).isSome then es.map (fun p => if p.1 = k then (p.1, d) else p) else es ++ [(k, d)]
def atX (xs : List XE) (k : TK) : Option V := (xs.find? fun x => decide (x.1 = .tup k)).map (·.2.2)
def putX (xs : List XE) (k : TK) (b : Addr) (v : V) : List XE := if (atX xs k).isSome then xs.map (fun x => if x.1 = .tup k then (x.1, x.2.1, v) else x) else xs ++ [(.tup k, b, v)]
theorem tup_inj {a b : TK} : (NestedKey.tup a = NestedKey.tup b) ↔ a = b := ⟨fun h => by cases h; rfl, fun h => by rw [h]⟩
theorem xes_at : ∀ {xs : List XE} {ys : List (NestedKey × Addr × Value)} {k : TK}, XEs xs ys → RelO (atX xs k) ((atKey ys (.tup k)).map (·.2))
  | _, _, _, .nil => by simp [atX, atKey, RelO]
  | _, _, k, .cons (a := x) (b := y) r t => by
    have ih := xes_at (k := k) t
    obtain ⟨e1, e2, e3⟩ := r
    by_cases e : x.1 = .tup k
    · have e' : y.1 = .tup k := by rw [← e1]; exact e
      simp only [atX, atKey, List.find?_cons, e, e', decide_true, Option.map_some]
      exact e3
    · have e' : ¬ y.1 = .tup k := by rw [← e1]; exact e
      simp only [atX, atKey, List.find?_cons, e, e', decide_false] at ih ⊢
      exact ih
theorem xes_append : ∀ {xs xs' : List XE} {ys ys' : List (NestedKey × Addr × Value)}, XEs xs ys → XEs xs' ys' → XEs (xs ++ xs') (ys ++ ys')
  | _, _, _, _, .nil, h => h
  | _, _, _, _, .cons r t, h => .cons r (xes_append t h)
theorem xes_repl {k : TK} {v : V} {u : Value} (r : RelV v u) : ∀ {xs : List XE} {ys : List (NestedKey × Addr × Value)}, XEs xs ys → XEs (xs.map (fun x => if x.1 = .tup k then (x.1, x.2.1, v) else x)) (ys.map (putAt (.tup k) u))
  | _, _, .nil => .nil
  | _, _, .cons (a := x) (b := y) q t => by
    rw [List.map_cons, List.map_cons]
    obtain ⟨e1, e2, e3⟩ := q
    by_cases e : x.1 = .tup k
    · rw [if_pos e, putAt, if_pos (by rw [← e1]; exact e)]
      exact .cons ⟨e1, e2, r⟩ (xes_repl r t)
    · rw [if_neg e, putAt, if_neg (by rw [← e1]; exact e)]
      exact .cons ⟨e1, e2, e3⟩ (xes_repl r t)
theorem relO_isS {o : Option V} {u : Option Value} (h : RelO o u) : o.isSome = u.isSome := by
  cases o <;> cases u <;> first | rfl | cases h
theorem xes_put {xs : List XE} {ys : List (NestedKey × Addr × Value)} {k : TK} {b : Addr} {v : V} {u : Value} (h : XEs xs ys) (r : RelV v u) : XEs (putX xs k b v) (storedH ys (.tup k) b u) := by
  refine NoI.keep (fun _ wNoI => ?_) ?_
  simp only [↓ NoI.wrOf wNoI (by
  clear wNoI
  unfold putX storedH
  have e := relO_isS (xes_at (k := k) h)
  rw [Option.isSome_map] at e
  rw [e]
  split
  · exact xes_repl r h
  · exact xes_append h (.cons ⟨rfl, rfl, r⟩ .nil)
  )]
  intro _ hNoI
  simpa using (fun (_ : NoI.Sg) => hNoI) [5]
section
variable [WW]
mutual
theorem dv_K {K K' : PySem.W.Frag} {H : Hp} : ∀ (v : V) (d : D), DV K H v d → DV K' H v d
  | _, _, .non => .non
  | _, _, .bl b => .bl b
  | _, _, .int i => .int i
  | _, _, .str x => .str x
  | _, _, .lst h1 h2 => .lst h1 (dvs_K _ _ h2)
  | _, _, .tup h1 h2 => .tup h1 (dvs_K _ _ h2)
  | _, _, .dK h1 h2 h3 => .dK h1 h2 (dvs_K _ _ h3)
  | _, _, .dX h1 h2 => .dX h1 (dks_K _ _ h2)
theorem dvs_K {K K' : PySem.W.Frag} {H : Hp} : ∀ (vs : List V) (ds : List D), DVs K H vs ds → DVs K' H vs ds
  | _, _, .nil => .nil
  | _, _, .cons h1 h2 => .cons (dv_K _ _ h1) (dvs_K _ _ h2)
theorem dks_K {K K' : PySem.W.Frag} {H : Hp} : ∀ (xs : List XE) (es : List (D × D)), DKs K H xs es → DKs K' H xs es
  | _, _, .nil => .nil
  | _, _, .cons h1 h2 h3 => .cons (dv_K _ _ h1) (dv_K _ _ h2) (dks_K _ _ h3)
end
theorem KX.kk {K K' : PySem.W.Frag} {H : Hp} : ∀ {xs : List XE} {es : List (TK × D)}, KX K H xs es → KX K' H xs es
  | _, _, .nil => .nil
  | _, _, .cons h1 h2 h3 => .cons (dv_K _ _ h1) (dv_K _ _ h2) h3.kk
section
variable {K : PySem.W.Frag} {H : Hp}
theorem KX.at : ∀ {xs : List XE} {es : List (TK × D)} {k : TK}, KX K H xs es → (∀ d, lkX es k = some d → ∃ v, atX xs k = some v ∧ DV K H v d) ∧ (lkX es k = none → atX xs k = none)
  | _, _, _, .nil => ⟨fun d h => by simp [lkX] at h, fun _ => rfl⟩
  | _, _, k, .cons (k := j) (xs := xs) (es := es) h1 h2 h3 => by
    by_cases e : j = k
    · subst e
      refine ⟨fun d h => ?_, fun h => by simp [lkX] at h⟩
      simp [lkX] at h
      subst h
      exact ⟨_, by simp [atX], h2⟩
    · have ih := h3.at (k := k)
      have e' : ¬ NestedKey.tup j = NestedKey.tup k := fun z => e (tup_inj.mp z)
      refine ⟨fun d h => ?_, fun h => ?_⟩
      · have h : lkX es k = some d := by simpa [lkX, e] using h
        obtain ⟨v, q1, q2⟩ := ih.1 d h
        exact ⟨v, by simpa [atX, e'] using q1, q2⟩
      · have h : lkX es k = none := by simpa [lkX, e] using h
        simpa [atX, e'] using ih.2 h
theorem KX.isS {xs : List XE} {es : List (TK × D)} (h : KX K H xs es) (k : TK) : (atX xs k).isSome = (lkX es k).isSome := by
  cases e : lkX es k with
  | none => rw [(h.at (k := k)).2 e]; rfl
  | some d => obtain ⟨v, q, _⟩ := (h.at (k := k)).1 d e; rw [q]; rfl
theorem KX.repl {k : TK} {v : V} {d : D} (r : DV K H v d) : ∀ {xs : List XE} {es : List (TK × D)}, KX K H xs es → KX K H (xs.map (fun x => if x.1 = .tup k then (x.1, x.2.1, v) else x)) (es.map (fun p => if p.1 = k then (p.1, d) else p))
  | _, _, .nil => .nil
  | _, _, .cons (k := j) h1 h2 h3 => by
    rw [List.map_cons, List.map_cons]
    by_cases e : j = k
    · rw [if_pos e, if_pos (by simpa using e)]
      exact .cons h1 r (h3.repl r)
    · rw [if_neg e, if_neg (fun z => e (tup_inj.mp z))]
      exact .cons h1 h2 (h3.repl r)
theorem KX.append : ∀ {xs ys : List XE} {es fs : List (TK × D)}, KX K H xs es → KX K H ys fs → KX K H (xs ++ ys) (es ++ fs)
  | _, _, _, _, .nil, h => h
  | _, _, _, _, .cons h1 h2 h3, h => .cons h1 h2 (h3.append h)
theorem KX.put {xs : List XE} {es : List (TK × D)} {k : TK} {b : Addr} {v : V} {d : D} (h : KX K H xs es) (hb : DV K H (.ref b) (kx k)) (r : DV K H v d) : KX K H (putX xs k b v) (ptX es k d) := by
  unfold putX ptX
  rw [h.isS k]
  split
  · exact h.repl r
  · exact h.append (.cons hb r .nil)
end
/-- a key, there -/
def KeyX (K : PySem.W.Frag) (H : Hp) (b : Addr) (k : TK) : Prop := DV K H (.ref b) (kx k) ∧ (NestedKey.tup k).depth ≤ 8
def rIxV (K : PySem.W.Frag) : R2 := fun x y H Q => ∃ (a b : Addr) (xs : List XE) (es : List (TK × D)) (k : TK) (v : V), x = .ref a ∧ y = .ref b ∧ IsX H a xs ∧ KX K H xs es ∧ KeyX K H b k ∧ atX xs k = some v ∧ Q v H
def rInV (K : PySem.W.Frag) (neg : Bool) : R2 := fun x y H Q => ∃ (a b : Addr) (xs : List XE) (es : List (TK × D)) (k : TK), x = .ref b ∧ y = .ref a ∧ IsX H a xs ∧ KX K H xs es ∧ KeyX K H b k ∧ Q (.bl (if neg then !(atX xs k).isSome else (atX xs k).isSome)) H
def rSetV : TSet := fun o i v H Q => ∃ (K : PySem.W.Frag) (a b : Addr) (xs : List XE) (es : List (TK × D)) (k : TK), o = .ref a ∧ i = .ref b ∧ IsXw H a xs ∧ KX K H xs es ∧ KeyX K H b k ∧ xs.length < sizeLine ∧ Q (upd H a (DXo a (putX xs k b v)))
end
section
variable {X : Cx}
theorem key_is {pins : List (Addr × Obj)} {σ : L2.St} {H : Hp} {s : Shared} {b : Addr} {k : TK} (I : L2.Inv X pins σ H s) (h : @KeyX ⟨X.w⟩ X.K H b k) : (nestedKind X.prog X.w).is s.heap (.tup k) b := by
  obtain ⟨h1, h2⟩ := h
  exact ⟨@nk_is ⟨X.w⟩ X pins σ H s I (.tup k) (.ref b) _ h1 rfl, h2⟩
theorem ix_dx (hu : X.A.units + 64 < cLine) : IxR X (@rIxV ⟨X.w⟩ X.K) := by
  refine NoI.keep (fun _ wNoI => ?_) ?_
  simp only [↓ NoI.wrOf wNoI (by
  clear wNoI
  intro value slice pins s σ H x y v u Q I rx ry h hs
  obtain ⟨a, b, xs, es, k, w, rfl, rfl, hX, hK, hk, e, q⟩ := h
  cases rx; cases ry
  obtain ⟨ys, r, dd, _, _⟩ := isx_of I hX (@KX.dks ⟨X.w⟩ _ _ _ _ hK)
  have ro := xes_at (k := k) r
  rw [e] at ro
  obtain ⟨w', hw, rw'⟩ := RelO.some_of (v := w) (o := (atKey ys (.tup k)).map (·.2)) ro
  obtain ⟨p, hp, hp2⟩ := Option.map_eq_some_iff.mp hw
  refine tail_any dd.typeIs PySem.F.slot_dict_getitem.lookup (wpAny_getItem_heap (knd := nestedKind X.prog X.w) (by show X.A.units + 1 + 8 < cLine; omega) (key_is I hk) dd hp ?_) hs
  rw [hp2]
  exact ⟨w, H, I.tok _, rw', q⟩
  )]
  intro _ hNoI
  simpa using (fun (_ : NoI.Sg) => hNoI) [5]
theorem op_inV (hu : X.A.units + 64 < cLine) : OpR X (compareOp .In) (@rInV ⟨X.w⟩ X.K false) := by
  refine NoI.keep (fun _ wNoI => ?_) ?_
  simp only [↓ NoI.wrOf wNoI (by
  clear wNoI
  intro pins s σ H x y v u Q I rx ry h
  obtain ⟨a, b, xs, es, k, rfl, rfl, hX, hK, hk, q⟩ := h
  cases rx; cases ry
  obtain ⟨ys, r, dd, _, hd⟩ := isx_of I hX (@KX.dks ⟨X.w⟩ _ _ _ _ hK)
  have ro := relO_isS (xes_at (k := k) r)
  rw [Option.isSome_map] at ro
  refine wpAny_in_heap (knd := nestedKind X.prog X.w) (by show X.A.units + 1 + 8 < cLine; omega) (key_is I hk) hd dd ?_
  rw [← ro]
  exact ⟨.bl _, H, I.tok _, rfl, q⟩
  )]
  intro _ hNoI
  simpa using (fun (_ : NoI.Sg) => hNoI) [5]
theorem op_niV (hu : X.A.units + 64 < cLine) : OpR X (compareOp .NotIn) (@rInV ⟨X.w⟩ X.K true) := by
  refine NoI.keep (fun _ wNoI => ?_) ?_
  simp only [↓ NoI.wrOf wNoI (by
  clear wNoI
  intro pins s σ H x y v u Q I rx ry h
  obtain ⟨a, b, xs, es, k, rfl, rfl, hX, hK, hk, q⟩ := h
  cases rx; cases ry
  obtain ⟨ys, r, dd, _, hd⟩ := isx_of I hX (@KX.dks ⟨X.w⟩ _ _ _ _ hK)
  have ro := relO_isS (xes_at (k := k) r)
  rw [Option.isSome_map] at ro
  show wpAny _ _ (do return Value.bool (!(← contains (Value.ref a) (Value.ref b)))) _ _ s
  refine wpAny_bind (wpAny_contains_heap (knd := nestedKind X.prog X.w) (by show X.A.units + 1 + 8 < cLine; omega) (key_is I hk) hd dd (wpAny_pure ?_))
  rw [← ro]
  exact ⟨.bl _, H, I.tok _, rfl, q⟩
  )]
  intro _ hNoI
  simpa using (fun (_ : NoI.Sg) => hNoI) [5]
theorem depth_put {xs : List XE} {k : TK} {b : Addr} {v : V} (h : xs.length < sizeLine ∧ ∀ x ∈ xs, x.1.depth ≤ 8) (hk : (NestedKey.tup k).depth ≤ 8) : (putX xs k b v).length ≤ sizeLine ∧ ∀ x ∈ putX xs k b v, x.1.depth ≤ 8 := by
  refine NoI.keep (fun _ wNoI => ?_) ?_
  simp only [↓ NoI.wrOf wNoI (by
  clear wNoI
  unfold putX
  split
  · refine ⟨by rw [List.length_map]; omega, fun x hx => ?_⟩
    obtain ⟨y, hy, rfl⟩ := List.mem_map.mp hx
    have := h.2 y hy
    split <;> exact this
  · refine ⟨by rw [List.length_append, List.length_singleton]; omega, fun x hx => ?_⟩
    rcases List.mem_append.mp hx with hx | hx
    · exact h.2 x hx
    · simp only [List.mem_singleton] at hx
      subst hx
      exact hk
  )]
  intro _ hNoI
  simpa using (fun (_ : NoI.Sg) => hNoI) [5]
theorem set_V (hu : X.A.units + 64 < cLine) : PSet X (@rSetV ⟨X.w⟩) := by
  refine NoI.keep (fun _ wNoI => ?_) ?_
  simp only [↓ NoI.wrOf wNoI (by
  clear wNoI
  intro pins s σ H o i v ov iv u Q I ro ri rv h
  obtain ⟨K, a, b, xs, es, k, rfl, rfl, hX, hK, hk, hz, q⟩ := h
  cases ro; cases ri
  have hK := @KX.kk ⟨X.w⟩ _ X.K _ _ _ hK
  have hk : @KeyX ⟨X.w⟩ X.K H b k := ⟨@dv_K ⟨X.w⟩ _ _ _ _ _ hk.1, hk.2⟩
  have hmu := @IsXw.mut ⟨X.w⟩ _ _ _ hX
  obtain ⟨ys, r, dd, hd, hs⟩ := isx_of I (@IsXw.rd ⟨X.w⟩ _ _ _ hX) (@KX.dks ⟨X.w⟩ _ _ _ _ hK)
  have hl : ys.length = xs.length := by have := congrArg List.length (xes_key r); simpa using this.symm
  refine wpAny_setItem_heap (knd := nestedKind X.prog X.w) (by show X.A.units + 1 + 8 < cLine; omega) (key_is I hk) dd (fun h' d' hsb => ?_) (by omega)
  refine ⟨_, d_write I hmu hsb ?_ (dx_new (depth_put ⟨hz, hd.2⟩ hk.2) hs (xes_put r rv) d'), q⟩
  obtain ⟨ob, _, _, g, _⟩ := d'
  exact ⟨ob, g⟩
  )]
  intro _ hNoI
  simpa using (fun (_ : NoI.Sg) => hNoI) [5]

end
end SH

/-! repr of any data, dicts included -/
namespace SH
open PySem PySem.Spec PyProof.Rows L2
section
variable {X : Cx} {pins : List (Addr × Obj)} {σ : L2.St} {H : Hp} {s : Shared}
/-- what is known of one value: how it reads, and how it is told -/
def Tell (X : Cx) (s : Shared) (u : Value) (d : D) : Prop := ∃ as bs, Reads s.heap u d as ∧ ReadAtMost s.heap d.depth bs ∧ ReprK X.prog X.w bs s.heap d.depth u d.shown
def Tells (X : Cx) (s : Shared) (us : List Value) (ds : List D) : Prop := ∃ as bs, ReadsAll s.heap us ds as ∧ ReadAtMost s.heap (PyData.depthAll ds) bs ∧ ReprAllK X.prog X.w bs s.heap (PyData.depthAll ds) us (PyData.shownAll ds)
theorem Tells.nil : Tells X s [] [] := ⟨_, [], .nil, fun _ h => (by cases h), by rw [PyData.shownAll]; exact .nil⟩
theorem Tells.cons {u : Value} {d : D} {us : List Value} {ds : List D} (h : Tell X s u d) (t : Tells X s us ds) : Tells X s (u :: us) (d :: ds) := by
  refine NoI.keep (fun _ wNoI => ?_) ?_
  simp only [↓ NoI.wrOf wNoI (by
  clear wNoI
  obtain ⟨as, bs, h1, h2, h3⟩ := h
  obtain ⟨cs, es, t1, t2, t3⟩ := t
  have l : d.depth ≤ PyData.depthAll (d :: ds) := by rw [PyData.depthAll]; omega
  have r : PyData.depthAll ds ≤ PyData.depthAll (d :: ds) := by rw [PyData.depthAll]; omega
  refine ⟨_, bs ++ es, .cons h1 t1, (h2.mono l).append (t2.mono r), ?_⟩
  rw [PyData.shownAll]
  exact .cons ((h3.more fun b hb => List.mem_append_left _ hb).level_le l) (t3.more_le (fun b hb => List.mem_append_right _ hb) r)
  )]
  intro _ hNoI
  simpa using (fun (_ : NoI.Sg) => hNoI) [5]
/-- short enough, and of small numbers -/
def Sh (d : D) : Prop := d.showable = true ∧ d.shown.length ≤ sizeLine
def Shs (ds : List D) : Prop := PyData.showableAll ds = true ∧ ∀ t ∈ PyData.shownAll ds, t.length ≤ sizeLine
theorem Shs.head {d : D} {ds : List D} (h : Shs (d :: ds)) : Sh d := ⟨by have := h.1; rw [PyData.showableAll, Bool.and_eq_true] at this; exact this.1, h.2 _ (by rw [PyData.shownAll]; exact List.mem_cons_self)⟩
theorem Shs.tail {d : D} {ds : List D} (h : Shs (d :: ds)) : Shs ds := ⟨by have := h.1; rw [PyData.showableAll, Bool.and_eq_true] at this; exact this.2, fun t ht => h.2 t (by rw [PyData.shownAll]; exact List.mem_cons_of_mem _ ht)⟩
theorem Sh.list {ds : List D} (h : Sh (.list ds)) : Shs ds := ⟨by have := h.1; rwa [PyData.showable] at this, fun t ht => Nat.le_trans (listText_mem_le ht) (by have := h.2; rwa [PyData.shown] at this)⟩
theorem Sh.tuple {ds : List D} (h : Sh (.tuple ds)) : Shs ds := ⟨by have := h.1; rwa [PyData.showable] at this, fun t ht => Nat.le_trans (tupleText_mem_le ht) (by have := h.2; rwa [PyData.shown] at this)⟩
theorem Sh.dict {es : List (D × D)} (h : Sh (.dict es)) : Shs (es.map (·.1)) ∧ Shs (es.map (·.2)) := by
  refine NoI.keep (fun _ wNoI => ?_) ?_
  simp only [↓ NoI.wrOf wNoI (by
  clear wNoI
  obtain ⟨h1, h2⟩ := h
  rw [PyData.showable] at h1
  rw [PyData.shown] at h2
  obtain ⟨a, b⟩ := PyData.showableKv_split es h1
  refine ⟨⟨a, fun t ht => ?_⟩, ⟨b, fun t ht => ?_⟩⟩
  · obtain ⟨p, hp, hl⟩ := PyData.shownKv_key_le es t ht
    exact Nat.le_trans hl (Nat.le_trans (dictText_mem_le hp) h2)
  · obtain ⟨p, hp, hl⟩ := PyData.shownKv_val_le es t ht
    exact Nat.le_trans hl (Nat.le_trans (dictText_mem_le hp) h2)
  )]
  intro _ hNoI
  simpa using (fun (_ : NoI.Sg) => hNoI) [5]
/-- the calls of repr at the top -/
def Told (X : Cx) (s : Shared) (a : Addr) (d : D) : Prop := ∃ T idr, ShowsBy X.prog X.w s.heap a d T idr
theorem lst_tell {a : Addr} {o : Obj} {its : List Value} {n : Nat} {ds : List D} (g1 : s.heap.get? a = some o) (g2 : o.cls = .type "list") (g3 : o.data = .seq its.toArray n) (hz : (PyData.list ds).shown.length ≤ sizeLine) (h : Tells X s its ds) :
    Tell X s (.ref a) (.list ds) ∧ Told X s a (.list ds) := by
  refine NoI.keep (fun _ wNoI => ?_) ?_
  simp only [↓ NoI.wrOf wNoI (by
  clear wNoI
  obtain ⟨as, bs, h1, h2, h3⟩ := h
  have rd : Reads s.heap (.ref a) (.list ds) (a :: as) := .list g1 g2 g3 (by simpa using h1)
  have dp : (PyData.list ds).depth = PyData.depthAll ds + 1 := by rw [PyData.depth]
  have na : a ∉ bs := not_mem_of_deeper rd (by rw [dp]; omega) h2
  cases its with
  | nil =>
    cases h1
    have e : (PyData.list []).shown = "[]" := by rw [PyData.shown, PyData.shownAll, listText_nil]
    refine ⟨⟨_, a :: bs, rd, h2.cons rd (by rw [dp]; omega), ?_⟩, "list", "list.__repr__", F.slot_list_repr.toG, F.slot_list_str, F.slot_list_format, fun t hk => ⟨o, hk _ _ g1, g2⟩, fun A E t Q hg hu hk hQ => ?_⟩
    · rw [e]; exact .listEmpty g1 g2 g3
    · exact call_list_repr_empty ⟨o, hk _ _ g1, g2⟩ (hk _ _ g1) g3 (by rw [e] at hQ; exact hQ t.heap _ _ fun _ _ z => z)
  | cons x l =>
    have e : (PyData.list ds).shown = listText (PyData.shownAll ds) := by rw [PyData.shown]
    refine ⟨⟨_, a :: bs, rd, h2.cons rd (by rw [dp]; omega), ?_⟩, "list", "list.__repr__", F.slot_list_repr.toG, F.slot_list_str, F.slot_list_format, fun t hk => ⟨o, hk _ _ g1, g2⟩, fun A E t Q hg hu hk hQ => ?_⟩
    · rw [e, dp]; exact .list g1 g2 g3 na (by simpa using h3.length_eq) fun i y q => h3.item i y (by simpa using q)
    · rw [dp] at hu
      rw [e] at hQ hz
      exact call_list_reprK g1 g2 g3 na (by simpa using h3.length_eq) (fun i y q => h3.item i y (by simpa using q)) hg (fun b _ => Clear.nil b) hu hk hQ hz
  )]
  intro _ hNoI
  simpa using (fun (_ : NoI.Sg) => hNoI) [5]
theorem tup_tell {a : Addr} {o : Obj} {its : List Value} {n : Nat} {ds : List D} (g1 : s.heap.get? a = some o) (g2 : o.cls = .type "tuple") (g3 : o.data = .seq its.toArray n) (hz : (PyData.tuple ds).shown.length ≤ sizeLine) (h : Tells X s its ds) :
    Tell X s (.ref a) (.tuple ds) ∧ Told X s a (.tuple ds) := by
  refine NoI.keep (fun _ wNoI => ?_) ?_
  simp only [↓ NoI.wrOf wNoI (by
  clear wNoI
  obtain ⟨as, bs, h1, h2, h3⟩ := h
  have rd : Reads s.heap (.ref a) (.tuple ds) as := .tuple g1 g2 g3 (by simpa using h1)
  have dp : (PyData.tuple ds).depth = PyData.depthAll ds + 1 := by rw [PyData.depth]
  have na : a ∉ bs := not_mem_of_deeper rd (by rw [dp]; omega) h2
  have e : (PyData.tuple ds).shown = tupleText (PyData.shownAll ds) := by rw [PyData.shown]
  refine ⟨⟨_, a :: bs, rd, h2.cons rd (by rw [dp]; omega), ?_⟩, "tuple", "tuple.__repr__", F.slot_tuple_repr, F.slot_tuple_str, F.slot_tuple_format, fun t hk => ⟨o, hk _ _ g1, g2⟩, fun A E t Q hg hu hk hQ => ?_⟩
  · rw [e, dp]; exact .tuple g1 g2 g3 na (by simpa using h3)
  · rw [dp] at hu
    rw [e] at hQ hz
    exact call_tuple_reprK g1 g2 g3 na (by simpa using h3) hg (fun b _ => Clear.nil b) hu hk hQ hz
  )]
  intro _ hNoI
  simpa using (fun (_ : NoI.Sg) => hNoI) [5]
theorem dic_tell {a : Addr} {o : Obj} {es : Array DictEntry} {n : Nat} {kvs : List (D × D)} (g1 : s.heap.get? a = some o) (g2 : o.cls = .type "dict") (g3 : o.data = .dict es n) (hs : (a == sysModules) = false) (hz : (PyData.dict kvs).shown.length ≤ sizeLine)
    (hk : Tells X s (es.toList.map (·.key)) (kvs.map (·.1))) (hv : Tells X s (es.toList.map (·.val)) (kvs.map (·.2))) : Tell X s (.ref a) (.dict kvs) ∧ Told X s a (.dict kvs) := by
  refine NoI.keep (fun _ wNoI => ?_) ?_
  simp only [↓ NoI.wrOf wNoI (by
  clear wNoI
  obtain ⟨as, bs, h1, h2, h3⟩ := hk
  obtain ⟨cs, fs, t1, t2, t3⟩ := hv
  have rd : Reads s.heap (.ref a) (.dict kvs) _ := .dict g1 g2 g3 h1 t1
  have dp : (PyData.dict kvs).depth = PyData.depthKv kvs + 1 := by rw [PyData.depth]
  have dk := PyData.depthAll_keys_le kvs
  have dv := PyData.depthAll_vals_le kvs
  have hb : ReadAtMost s.heap (PyData.depthKv kvs) (bs ++ fs) := (h2.mono dk).append (t2.mono dv)
  have na : a ∉ bs ++ fs := not_mem_of_deeper rd (by rw [dp]; omega) hb
  have e : (PyData.dict kvs).shown = dictText (List.zipWith (fun k v : Str => k ++ ": " ++ v) (PyData.shownAll (kvs.map (·.1))) (PyData.shownAll (kvs.map (·.2)))) := by rw [PyData.shown, PyData.shownKv_eq]
  have en := ReprEntriesK.of_two es.toList _ _ (h3.more_le (fun b hb => List.mem_append_left fs hb) dk) (t3.more_le (fun b hb => List.mem_append_right bs hb) dv)
  refine ⟨⟨_, a :: (bs ++ fs), rd, hb.cons rd (by rw [dp]; omega), ?_⟩, "dict", "dict.__repr__", F.slot_dict_repr, F.slot_dict_str, F.slot_dict_format, fun t hk => ⟨o, hk _ _ g1, g2⟩, fun A E t Q hg hu hk hQ => ?_⟩
  · rw [e, dp]; exact .dict g1 g2 g3 hs na en
  · rw [dp] at hu
    rw [e] at hQ hz
    exact call_dict_reprK g1 g2 g3 hs na en hg (fun b _ => Clear.nil b) hu hk hQ hz
  )]
  intro _ hNoI
  simpa using (fun (_ : NoI.Sg) => hNoI) [5]
/-- keys that are ints and strings -/
theorem dk_keys : ∀ {l : List DictEntry} {vs : List (Key × Value)}, Pairs (mixKind X.prog X.w) l vs → Shs (vs.map fun p => kD p.1) → Tells X s (l.map (·.key)) (vs.map fun p => kD p.1)
  | _, _, .nil, _ => .nil
  | _, _, .cons (e := e) (kv := kv) h1 _ t, z => by
    refine .cons ?_ (dk_keys t z.tail)
    have hd := z.head
    rcases keyIs_shape h1 with ⟨i, tk, e1, e2⟩ | ⟨x, tk, e1, e2⟩
    · have hd : Sh (kD kv.1) := hd
      show Tell X s e.key (kD kv.1)
      rw [e1] at hd ⊢
      rw [e2]
      refine ⟨_, [], .int i tk, fun _ h => (by cases h), ?_⟩
      have := hd.1
      rw [kD, PyData.showable] at this
      rw [kD, PyData.shown]
      exact .of_is (ReprIs.int tk (by simpa using this)) _ _ _
    · have hd : Sh (kD kv.1) := hd
      show Tell X s e.key (kD kv.1)
      rw [e1] at hd ⊢
      rw [e2]
      refine ⟨_, [], .str x tk, fun _ h => (by cases h), ?_⟩
      have := hd.2
      rw [kD, PyData.shown] at this
      rw [kD, PyData.shown]
      exact .of_is (ReprIs.str x tk this) _ _ _
theorem pairs_vals : ∀ {l : List DictEntry} {vs : List (Key × Value)}, Pairs (mixKind X.prog X.w) l vs → l.map (·.val) = vs.map (·.2)
  | _, _, .nil => rfl
  | _, _, .cons _ h t => by rw [List.map_cons, List.map_cons, h, pairs_vals t]
theorem dK_told (I : L2.Inv X pins σ H s) {a : Addr} {kvs : List (Key × V)} {es : List (D × D)} (e : Rd H a (.dK kvs)) (hk : es.map (·.1) = kvs.map fun p => kD p.1) (z : Sh (.dict es)) (ih : ∀ us, Vals (kvs.map (·.2)) us → Tells X s us (es.map (·.2))) :
    Tell X s (.ref a) (.dict es) ∧ Told X s a (.dict es) := by
  refine NoI.keep (fun _ wNoI => ?_) ?_
  simp only [↓ NoI.wrOf wNoI (by
  clear wNoI
  obtain ⟨_, hs, vs, rel, o, l, ep, g1, g2, g3, _, hp, _⟩ := dk_rd I.hok e
  refine dic_tell g1 g2.1 g3 hs z.2 ?_ ?_
  · have h := z.dict.1
    rw [hk] at h ⊢
    have e2 : (kvs.map fun p => kD p.1) = vs.map fun p => kD p.1 := by
      have := congrArg (List.map kD) rel.keys
      rw [List.map_map, List.map_map] at this
      exact this
    rw [e2] at h ⊢
    exact dk_keys hp h
  · rw [pairs_vals hp]
    exact ih _ (kv_val rel)
  )]
  intro _ hNoI
  simpa using (fun (_ : NoI.Sg) => hNoI) [5]
theorem dX_told (I : L2.Inv X pins σ H s) {a : Addr} {xs : List XE} {es : List (D × D)} (e : Rd H a (@DXo ⟨X.w⟩ a xs)) (z : Sh (.dict es)) (hk : ∀ ys, XEs xs ys → Tells X s (ys.map fun y => Value.ref y.2.1) (es.map (·.1))) (ih : ∀ us, Vals (xs.map (·.2.2)) us → Tells X s us (es.map (·.2))) :
    Tell X s (.ref a) (.dict es) ∧ Told X s a (.dict es) := by
  refine NoI.keep (fun _ wNoI => ?_) ?_
  simp only [↓ NoI.wrOf wNoI (by
  clear wNoI
  obtain ⟨_, hs, ys, r, o, l, ep, g1, g2, g3, g4, _⟩ := @dxo_at ⟨X.w⟩ _ _ _ _ _ _ I.hok e
  refine dic_tell g1 g2.1 g3 hs z.2 ?_ ?_
  · rw [g4, List.map_map]
    exact hk ys r
  · rw [g4, List.map_map]
    exact ih _ (xes_val r)
  )]
  intro _ hNoI
  simpa using (fun (_ : NoI.Sg) => hNoI) [5]
mutual
theorem rpD (I : L2.Inv X pins σ H s) : ∀ (d : D) (v : V) (u : Value), @DV ⟨X.w⟩ X.K H v d → RelV v u → Sh d → Tell X s u d ∧ (boxD d = true → ∃ a, u = .ref a ∧ Told X s a d)
  | .none, _, _, h, r, z => by
    cases h; cases r
    exact ⟨⟨_, [], .none, fun _ h => (by cases h), by rw [PyData.shown]; exact .of_is ReprIs.none _ _ _⟩, fun h => by cases h⟩
  | .bool b, _, _, h, r, z => by
    cases h; cases r
    exact ⟨⟨_, [], .bool b, fun _ h => (by cases h), by rw [PyData.shown]; exact .of_is (ReprIs.bool b) _ _ _⟩, fun h => by cases h⟩
  | .int i, _, _, h, r, z => by
    cases h
    obtain ⟨t, rfl⟩ := r
    have hs := z.1
    rw [PyData.showable] at hs
    exact ⟨⟨_, [], .int i t, fun _ h => (by cases h), by rw [PyData.shown]; exact .of_is (ReprIs.int t (by simpa using hs)) _ _ _⟩, fun h => by cases h⟩
  | .str x, _, _, h, r, z => by
    cases h
    obtain ⟨t, rfl⟩ := r
    have hs := z.2
    rw [PyData.shown] at hs
    exact ⟨⟨_, [], .str x t, fun _ h => (by cases h), by rw [PyData.shown]; exact .of_is (ReprIs.str x t hs) _ _ _⟩, fun h => by cases h⟩
  | .list ds, _, _, h, r, z => by
    cases h with
    | lst a1 b1 =>
      cases r
      obtain ⟨its, rv, ⟨o, n, g1, c1, _, d1⟩, _⟩ := I.list (X := X) (SqL.of a1)
      obtain ⟨p, q⟩ := lst_tell (X := X) g1 c1 d1 z.2 (rpDs I ds _ its b1 rv z.list)
      exact ⟨p, fun _ => ⟨_, rfl, q⟩⟩
  | .tuple ds, _, _, h, r, z => by
    cases h with
    | tup a1 b1 =>
      cases r
      obtain ⟨its, rv, ⟨o, g1, c1, n, d1⟩, _⟩ := I.tuple (@TupD.sq ⟨X.w⟩ X.K _ _ _ _ a1)
      obtain ⟨p, q⟩ := tup_tell (X := X) g1 c1 d1 z.2 (rpDs I ds _ its b1 rv z.tuple)
      exact ⟨p, fun _ => ⟨_, rfl, q⟩⟩
  | .dict es, _, _, h, r, z => by
    cases h with
    | dK a1 b1 c1 =>
      cases r
      obtain ⟨p, q⟩ := dK_told I a1 b1 z fun us ru => rpVs I es _ us c1 ru z.dict.2
      exact ⟨p, fun _ => ⟨_, rfl, q⟩⟩
    | dX a1 b1 =>
      cases r
      obtain ⟨p, q⟩ := dX_told I a1 z (fun ys ry => rpKs I es _ ys b1 ry z.dict.1) fun us ru => rpVs I es _ us (@dks_vals ⟨X.w⟩ _ _ _ _ b1) ru z.dict.2
      exact ⟨p, fun _ => ⟨_, rfl, q⟩⟩
theorem rpDs (I : L2.Inv X pins σ H s) : ∀ (ds : List D) (vs : List V) (us : List Value), @DVs ⟨X.w⟩ X.K H vs ds → Vals vs us → Shs ds → Tells X s us ds
  | [], _, _, h, r, _ => by
    cases h; cases r
    exact .nil
  | d :: ds, _, _, h, r, z => by
    cases h with
    | cons h1 h2 =>
      cases r with
      | cons r1 r2 => exact .cons (rpD I d _ _ h1 r1 z.head).1 (rpDs I ds _ _ h2 r2 z.tail)
theorem rpVs (I : L2.Inv X pins σ H s) : ∀ (es : List (D × D)) (vs : List V) (us : List Value), @DVs ⟨X.w⟩ X.K H vs (es.map (·.2)) → Vals vs us → Shs (es.map (·.2)) → Tells X s us (es.map (·.2))
  | [], _, _, h, r, _ => by
    cases h; cases r
    exact .nil
  | (k, d) :: es, _, _, h, r, z => by
    cases h with
    | cons h1 h2 =>
      cases r with
      | cons r1 r2 => exact .cons (rpD I d _ _ h1 r1 z.head).1 (rpVs I es _ _ h2 r2 z.tail)
theorem rpKs (I : L2.Inv X pins σ H s) : ∀ (es : List (D × D)) (xs : List XE) (ys : List (NestedKey × Addr × Value)), @DKs ⟨X.w⟩ X.K H xs es → XEs xs ys → Shs (es.map (·.1)) → Tells X s (ys.map fun y => Value.ref y.2.1) (es.map (·.1))
  | [], _, _, h, r, _ => by
    cases h; cases r
    exact .nil
  | (k, d) :: es, _, _, h, r, z => by
    cases h with
    | cons h1 h2 h3 =>
      cases r with
      | cons r1 r2 =>
        refine .cons (rpD I _ _ _ h1 ?_ z.head).1 (rpKs I es _ _ h3 r2 z.tail)
        exact congrArg Value.ref r1.2.1.symm
end
/-- repr(x), x a list, a tuple or a dict -/
def rReprV [WW] (K : PySem.W.Frag) : List V → Hp → VK → Prop := fun xs H Q => ∃ v d, xs = [v] ∧ DV K H v d ∧ Sh d ∧ d.depth ≤ 40 ∧ Q (.str d.shown) H
theorem call_reprV {X : Cx} {k : Nat} (hg : X.A.guards = some []) (hr : Room k X.A) : CallR X (.builtin "repr") (@rReprV ⟨X.w⟩ X.K) := by
  refine NoI.keep (fun _ wNoI => ?_) ?_
  simp only [↓ NoI.wrOf wNoI (by
  clear wNoI
  intro pins s σ H xs us Q I r h
  obtain ⟨v, d, rfl, hd, z, hz, q⟩ := h
  obtain ⟨u, rfl, rx⟩ := vals1 r
  have := hr.units
  cases hb : boxD d with
  | true =>
    obtain ⟨a, rfl, T, idr, S⟩ := (rpD I d v u hd rx z).2 hb
    exact call_repr_slot (by omega) (S.typeIs s fun _ _ e => e) S.slotRepr (S.call X.A.in1 _ s _ hg (by show X.A.units + 1 + d.depth < cLine; omega) (fun _ _ e => e) fun h' u tk hk => ⟨_, _, rfl, ⟨.str _, H, I.kept hk, ⟨_, rfl⟩, q⟩⟩)
  | false =>
    cases d with
    | none =>
      cases hd; cases rx
      exact PySem.P.repr_of_none ⟨.str _, H, I.tok _, ⟨_, rfl⟩, by rw [PyData.shown] at q; exact q⟩
    | bool b =>
      cases hd; cases rx
      exact PySem.P.repr_of_bool ⟨.str _, H, I.tok _, ⟨_, rfl⟩, by rw [PyData.shown] at q; exact q⟩
    | int i =>
      cases hd
      obtain ⟨t, rfl⟩ := rx
      have h1 := z.1
      rw [PyData.showable] at h1
      exact PySem.P.repr_of_int (by simpa using h1) ⟨.str _, H, I.tok _, ⟨_, rfl⟩, by rw [PyData.shown] at q; exact q⟩
    | str x =>
      cases hd
      obtain ⟨t, rfl⟩ := rx
      have h2 := z.2
      rw [PyData.shown] at h2
      exact PySem.P.repr_of_str ⟨.str _, H, I.tok _, ⟨_, rfl⟩, by rw [PyData.shown] at q; exact q⟩ h2
    | list _ => cases hb
    | tuple _ => cases hb
    | dict _ => cases hb
  )]
  intro _ hNoI
  simpa using (fun (_ : NoI.Sg) => hNoI) [5]
end
end SH

namespace SH
open PySem PySem.Spec PyProof.Rows L2
variable [WW]

/-! ### tuples of which all is known -/
theorem okTup {X : Cx} {H : Hp} {h : Heap} {p : Addr} {xs : List V} {its : List Value} (e : h.get? p = some { cls := .type "tuple", data := .seq its.toArray }) (r : Vals xs its) (z : xs.length ≤ sizeLine) :
    ObjOk X.prog X.w H h p (.frz { cls := .type "tuple", data := .seq its.toArray } (.tup xs)) :=
  ⟨e, z, its, r, ⟨_, e, rfl, _, rfl⟩⟩
section
variable {X : Cx} {pins : List (Addr × Obj)} {σ : L2.St} {H : Hp} {s : Shared} {Q : VK} {xs : List V} {its : List Value}
theorem newTup (I : Inv X pins σ H s) (r : Vals xs its) (z : xs.length ≤ sizeLine) (q : mkT H xs Q) :
    EP X pins σ Q (.ref s.heap.objs.size) { s with heap := s.heap.push { cls := .type "tuple", data := .seq its.toArray } } := by
  refine NoI.keep (fun _ wNoI => ?_) ?_
  simp only [↓ NoI.wrOf wNoI (by
  clear wNoI
  have hf : H s.heap.objs.size = none := I.hok.fresh (Nat.le_refl _)
  have kp : ∀ b u, s.heap.get? b = some u → (s.heap.push { cls := .type "tuple", data := .seq its.toArray }).get? b = some u := fun b u e => Heap.get?_push_of_some _ e
  rcases q with q | q
  · have lay := I.laid (t' := s.toks) (o := .tup xs) kp (Nat.le_refl _) ⟨z, its, r, _, Heap.get?_push_size _ rfl, rfl, _, rfl⟩
    exact ⟨V.ref s.heap.objs.size, _, lay, rfl, q _ hf⟩
  · have lay := I.laid (t' := s.toks) (o := .frz { cls := .type "tuple", data := .seq its.toArray } (.tup xs)) kp (Nat.le_refl _)
      (okTup (Heap.get?_push_size _ rfl) r z)
    exact ⟨V.ref s.heap.objs.size, _, lay, rfl, q _ _ rfl hf⟩
  )]
  intro _ hNoI
  simpa using (fun (_ : NoI.Sg) => hNoI) [5]
end
section
variable {X : Cx}
theorem pe_tupF {es : List Expr} {t : TA} {x1} {pos : Pos} (h : PA X es t) : PE X (.Tuple es x1 pos) (tTupF t) := by
  refine NoI.keep (fun _ wNoI => ?_) ?_
  simp only [↓ NoI.wrOf wNoI (by
  clear wNoI
  refine ⟨fun pins s σ H Q I hq => wpAny_Tuple_spliced (thn (h.run pos pins s σ H _ I hq) ?_)⟩
  rintro us s1 ⟨xs, H1, J, r, z, q⟩
  have e : us.toArray = us.toArray := rfl
  exact ⟨r.length ▸ z, newTup J r z q⟩
  )]
  intro _ hNoI
  simpa using (fun (_ : NoI.Sg) => hNoI) [5]
def rCatF (K : PySem.W.Frag) : R2 := fun x y H Q => ∃ a b xs ys, x = .ref a ∧ y = .ref b ∧ SqT K H a xs ∧ SqT K H b ys ∧ xs.length + ys.length ≤ sizeLine ∧
  (xs = [] → Q (.ref b) H) ∧ (xs ≠ [] → ys = [] → Q (.ref a) H) ∧ (xs ≠ [] → ys ≠ [] → mkT H (xs ++ ys) Q)
theorem op_catF : OpR X (binaryOp .Add) (rCatF X.K) := by
  refine NoI.keep (fun _ wNoI => ?_) ?_
  simp only [↓ NoI.wrOf wNoI (by
  clear wNoI
  rintro pins s σ H x y v u Q I rx ry ⟨a, b, xs, ys, rfl, rfl, ha, hb, hz, q0, q1, q2⟩
  cases rx
  cases ry
  obtain ⟨its, r1, p1, _⟩ := I.tuple ha
  obtain ⟨its2, r2, p2, _⟩ := I.tuple hb
  by_cases hx : xs = []
  · subst hx
    cases r1
    exact cat_tup0 p1 p2 ⟨.ref b, H, I, rfl, q0 rfl⟩
  · refine HT.cat_tup p1 p2 (fun z => hx (r1.nil_iff.mp z)) (fun z => ⟨.ref a, H, I, rfl, q1 hx (r2.nil_iff.mp z)⟩) (fun z => ?_) ?_
    · refine newTup I (r1.append r2) (by rw [List.length_append]; exact hz) (q2 hx fun w => z (r2.nil_iff.mpr w))
    · rw [← r1.length, ← r2.length]; exact hz
  )]
  intro _ hNoI
  simpa using (fun (_ : NoI.Sg) => hNoI) [5]
def rSlF (K : PySem.W.Frag) : V → Option Int → Option Int → Hp → VK → Prop := fun x lo hi H Q => ∃ a xs, x = .ref a ∧ SqT K H a xs ∧
  (HT.sIx xs.length 0 lo = 0 ∧ HT.sIx xs.length xs.length hi = xs.length → Q (.ref a) H) ∧
  (¬ (HT.sIx xs.length 0 lo = 0 ∧ HT.sIx xs.length xs.length hi = xs.length) → mkT H (cutV xs lo hi) Q)
theorem sl_tupF : SlR X (rSlF X.K) := by
  refine NoI.keep (fun _ wNoI => ?_) ?_
  simp only [↓ NoI.wrOf wNoI (by
  clear wNoI
  rintro pins s σ H x v vl vu lo hi sl Q I rx hs pl pu ⟨a, xs, rfl, hx, q1, q2⟩
  cases rx
  obtain ⟨its, r, ht, hz⟩ := I.tuple hx
  have len : its.toArray.size = xs.length := by rw [List.size_toArray]; exact r.length.symm
  refine ⟨"tuple", _, PyProof.Rows.slot_tuple_getitem.lookup, ht.typeIs, ?_⟩
  by_cases hw : HT.sIx xs.length 0 lo = 0 ∧ HT.sIx xs.length xs.length hi = xs.length
  · exact getItem_tuple_whole ht hs pl pu (by rw [len]; exact hw) ⟨.ref a, H, I, rfl, q1 hw⟩
  · refine HT.getItem_tuple_cut ht hs pl pu (by rw [len]; exact hw) ?_ (by rw [len]; exact hz)
    rw [len]
    exact newTup (xs := cutV xs lo hi) I ((r.drop _).take _) (Nat.le_trans (cutV_length xs lo hi) hz) (q2 hw)
  )]
  intro _ hNoI
  simpa using (fun (_ : NoI.Sg) => hNoI) [5]
def rTupU (K : PySem.W.Frag) : List V → Hp → VK → Prop := fun xs H Q => ∃ p ys, xs = [.ref p] ∧ ((SqL K H p ys ∧ mkT H ys Q) ∨ (SqT K H p ys ∧ Q (.ref p) H))
theorem call_tupF : CallR X (.type "tuple") (rTupU X.K) := by
  refine NoI.keep (fun _ wNoI => ?_) ?_
  simp only [↓ NoI.wrOf wNoI (by
  clear wNoI
  rintro pins s σ H xs us Q I r ⟨p, ys, rfl, h⟩
  obtain ⟨u, rfl, rx⟩ := vals1 r
  cases rx
  rcases h with ⟨hq, q⟩ | ⟨hq, q⟩
  · obtain ⟨its, r', pl, hz⟩ := I.list hq
    have len := r'.length
    refine call_tuple_list pl.isList (fun h' kp => ?_) (by simp only [List.size_toArray]; omega)
    exact newTup (I.kept (h' := h') (t' := s.toks) kp) r' hz q
  · obtain ⟨its, r', pl, hz⟩ := I.tuple hq
    exact call_tuple_same pl ⟨.ref p, H, I, rfl, q⟩
  )]
  intro _ hNoI
  simpa using (fun (_ : NoI.Sg) => hNoI) [5]
end
/-! ### operators for values of more than one kind -/
theorem opr_or {X : Cx} {f : Value → Value → Sem Value} {r r' : R2} (h : OpR X f r) (h' : OpR X f r') : OpR X f (fun x y H Q => r x y H Q ∨ r' x y H Q) := by
  intro pins s σ H x y v u Q I rx ry q
  rcases q with q | q
  · exact h pins s σ H x y v u Q I rx ry q
  · exact h' pins s σ H x y v u Q I rx ry q
theorem slr_or {X : Cx} {r r' : V → Option Int → Option Int → Hp → VK → Prop} (h : SlR X r) (h' : SlR X r') : SlR X (fun x l u H Q => r x l u H Q ∨ r' x l u H Q) := by
  refine NoI.keep (fun _ wNoI => ?_) ?_
  simp only [↓ NoI.wrOf wNoI (by
  clear wNoI
  intro pins s σ H x v vl vu lo hi sl Q I rx hs pl pu q
  rcases q with q | q
  · exact h pins s σ H x v vl vu lo hi sl Q I rx hs pl pu q
  · exact h' pins s σ H x v vl vu lo hi sl Q I rx hs pl pu q
  )]
  intro _ hNoI
  simpa using (fun (_ : NoI.Sg) => hNoI) [5]
def rStr2 : R2 := fun x y H Q => ∃ i j, x = .str i ∧ y = .str j ∧ i.length + j.length ≤ sizeLine ∧ Q (.str (i ++ j)) H
def rMulS : R2 := fun x y H Q => ∃ z n, x = .str z ∧ y = .int n ∧ MulOk z n ∧ Q (.str (Txt.mul z n)) H
theorem op_mulS {X : Cx} : OpR X (binaryOp .Mult) rMulS := by
  refine NoI.keep (fun _ wNoI => ?_) ?_
  simp only [↓ NoI.wrOf wNoI (by
  clear wNoI
  intro pins s σ H x y v u Q I rx ry h
  obtain ⟨z, n, rfl, rfl, ok, q⟩ := h
  obtain ⟨t, rfl⟩ := rx
  obtain ⟨t', rfl⟩ := ry
  exact SB.mul ok fun t' k => ⟨.str _, H, I.tok _, ⟨_, rfl⟩, q⟩
  )]
  intro _ hNoI
  simpa using (fun (_ : NoI.Sg) => hNoI) [5]
def rAddU (K : PySem.W.Frag) : R2 := fun x y H Q => (((rI0 fun i j => .int (i + j)) x y H Q ∨ rStr2 x y H Q) ∨ rCat x y H Q) ∨ rCatF K x y H Q
theorem op_addU {X : Cx} : OpR X (binaryOp .Add) (rAddU X.K) := opr_or (opr_or (opr_or op_add op_add_str) op_cat) op_catF
def rMulU : R2 := fun x y H Q => ((rI CMulW fun i j => .int (i * j)) x y H Q ∨ rMulS x y H Q) ∨ rRep x y H Q
theorem op_mulU {X : Cx} : OpR X (binaryOp .Mult) rMulU := opr_or (opr_or op_mulW op_mulS) op_rep
def rEqU (K : PySem.W.Frag) : R2 := fun x y H Q => rEq x y H Q ∨ rEqD K x y H Q ∨ rEqV K x y H Q
theorem op_eqU {X : Cx} (hu : X.A.units + 64 < cLine) : OpR X (compareOp .Eq) (@rEqU ⟨X.w⟩ X.K) := opr_or op_eq (opr_or (op_eqD hu) (op_eqV hu))
def rNeU (K : PySem.W.Frag) : R2 := fun x y H Q => rNe x y H Q ∨ rNeD K x y H Q
theorem op_neU {X : Cx} (hu : X.A.units + 64 < cLine) : OpR X (compareOp .NotEq) (rNeU X.K) := opr_or op_ne (op_neD hu)
def rSlU (K : PySem.W.Frag) : V → Option Int → Option Int → Hp → VK → Prop := fun x l u H Q => (rSlL K x l u H Q ∨ rSlF K x l u H Q) ∨ rSlS x l u H Q
theorem sl_U {X : Cx} : SlR X (rSlU X.K) := slr_or (slr_or sl_list sl_tupF) sl_str

section
variable {K : PySem.W.Frag} {Zc : Addr → Prop} {s : S} {x y : SV} {Φ : SV → S → Prop}
theorem os_I {C : Int → Int → Prop} {g : Int → Int → V} {i j : Int} {d : D} (h1 : rd s.mem x = some (.int i)) (h2 : rd s.mem y = some (.int j)) (hc : C i j) (hg : ∀ H, DV K H (g i j) d) (k : Φ (.dat d) s) : OpS K Zc (rI C g) x y s Φ := by
  intro ad H σ v u Q I r1 r2 p
  exact ⟨i, j, rd_int I.mr r1 h1, rd_int I.mr r2 h2, hc, p.val I k (sv := .dat d) (hg _)⟩
theorem os_I0 {g : Int → Int → V} {i j : Int} {d : D} (h1 : rd s.mem x = some (.int i)) (h2 : rd s.mem y = some (.int j)) (hg : ∀ H, DV K H (g i j) d) (k : Φ (.dat d) s) : OpS K Zc (rI0 g) x y s Φ := by
  intro ad H σ v u Q I r1 r2 p
  exact ⟨i, j, rd_int I.mr r1 h1, rd_int I.mr r2 h2, p.val I k (sv := .dat d) (hg _)⟩
theorem os_addI {i j : Int} (h1 : rd s.mem x = some (.int i)) (h2 : rd s.mem y = some (.int j)) (k : Φ (.dat (.int (i + j))) s) : OpS K Zc (rAddU K) x y s Φ :=
  fun ad H σ v u Q I r1 r2 p => .inl (.inl (.inl (os_I0 h1 h2 (fun _ => .int _) k ad H σ v u Q I r1 r2 p)))
theorem os_addS {i j : Str} (h1 : rd s.mem x = some (.str i)) (h2 : rd s.mem y = some (.str j)) (hz : i.length + j.length ≤ sizeLine) (k : Φ (.dat (.str (i ++ j))) s) : OpS K Zc (rAddU K) x y s Φ :=
  fun ad H σ v u Q I r1 r2 p => .inl (.inl (.inr ⟨i, j, rd_str I.mr r1 h1, rd_str I.mr r2 h2, hz, p.val I k (sv := .dat _) (.str _)⟩))
theorem os_addL {xs ys : List D} (h1 : rd s.mem x = some (.list xs)) (h2 : rd s.mem y = some (.list ys)) (hz : xs.length + ys.length ≤ sizeLine) (k : Φ (.own s.mem.length) ⟨s.sl, s.mem ++ [some (.list (xs ++ ys))]⟩) : OpS K Zc (rAddU K) x y s Φ := by
  refine NoI.keep (fun _ wNoI => ?_) ?_
  simp only [↓ NoI.wrOf wNoI (by
  clear wNoI
  intro ad H σ v u Q I r1 r2 p
  obtain ⟨a, vs, rfl, e1, d1⟩ := rd_lst I.mr r1 h1
  obtain ⟨b, us, rfl, e2, d2⟩ := rd_lst I.mr r2 h2
  exact .inl (.inr ⟨a, b, vs, us, rfl, rfl, e1, e2, by rw [dpAll_len d1, dpAll_len d2]; exact hz, fun q hq => p.lst I k hq (dpAll_append d1 d2)⟩)
  )]
  intro _ hNoI
  simpa using (fun (_ : NoI.Sg) => hNoI) [5]
theorem os_addT {xs ys : List D} (h1 : rd s.mem x = some (.tuple xs)) (h2 : rd s.mem y = some (.tuple ys)) (hz : xs.length + ys.length ≤ sizeLine) (k : Φ (.dat (.tuple (xs ++ ys))) s) : OpS K Zc (rAddU K) x y s Φ := by
  refine NoI.keep (fun _ wNoI => ?_) ?_
  simp only [↓ NoI.wrOf wNoI (by
  clear wNoI
  intro ad H σ v u Q I r1 r2 p
  obtain ⟨a, vs, rfl, e1, d1⟩ := rd_tup I.mr r1 h1
  obtain ⟨b, us, rfl, e2, d2⟩ := rd_tup I.mr r2 h2
  refine .inr ⟨a, b, vs, us, rfl, rfl, e1, e2, by rw [dpAll_len d1, dpAll_len d2]; exact hz, fun z => ?_, fun _ z => ?_, fun _ _ => p.tup I k (dpAll_append d1 d2)⟩
  · subst z
    cases d1
    obtain rfl := rd_tupD I.mr r2 h2
    exact p.val I k r2
  · subst z
    cases d2
    rw [List.append_nil] at k
    obtain rfl := rd_tupD I.mr r1 h1
    exact p.val I k r1
  )]
  intro _ hNoI
  simpa using (fun (_ : NoI.Sg) => hNoI) [5]
theorem os_mulI {i j : Int} (h1 : rd s.mem x = some (.int i)) (h2 : rd s.mem y = some (.int j)) (hc : CMulW i j) (k : Φ (.dat (.int (i * j))) s) : OpS K Zc rMulU x y s Φ :=
  fun ad H σ v u Q I r1 r2 p => .inl (.inl (os_I h1 h2 hc (fun _ => .int _) k ad H σ v u Q I r1 r2 p))
theorem os_mulS {z : Str} {n : Int} (h1 : rd s.mem x = some (.str z)) (h2 : rd s.mem y = some (.int n)) (hc : MulOk z n) (k : Φ (.dat (.str (Txt.mul z n))) s) : OpS K Zc rMulU x y s Φ :=
  fun ad H σ v u Q I r1 r2 p => .inl (.inr ⟨z, n, rd_str I.mr r1 h1, rd_int I.mr r2 h2, hc, p.val I k (sv := .dat _) (.str _)⟩)
theorem os_eqI {i j : Int} (h1 : rd s.mem x = some (.int i)) (h2 : rd s.mem y = some (.int j)) (k : Φ (.dat (.bool (i == j))) s) : OpS K Zc (rEqU K) x y s Φ := by
  refine NoI.keep (fun _ wNoI => ?_) ?_
  simp only [↓ NoI.wrOf wNoI (by
  clear wNoI
  intro ad H σ v u Q I r1 r2 p
  rw [rd_int I.mr r1 h1, rd_int I.mr r2 h2]
  refine .inl ⟨rfl, ?_⟩
  rw [show decide (V.int i = V.int j) = (i == j) by by_cases e : i = j <;> simp [e]]
  exact p.val I k (sv := .dat _) (.bl _)
  )]
  intro _ hNoI
  simpa using (fun (_ : NoI.Sg) => hNoI) [5]
theorem os_eqS {i j : Str} (h1 : rd s.mem x = some (.str i)) (h2 : rd s.mem y = some (.str j)) (k : Φ (.dat (.bool (decide (i = j)))) s) : OpS K Zc (rEqU K) x y s Φ := by
  refine NoI.keep (fun _ wNoI => ?_) ?_
  simp only [↓ NoI.wrOf wNoI (by
  clear wNoI
  intro ad H σ v u Q I r1 r2 p
  rw [rd_str I.mr r1 h1, rd_str I.mr r2 h2]
  refine .inl ⟨rfl, ?_⟩
  rw [show decide (V.str i = V.str j) = decide (i = j) by by_cases e : i = j <;> simp [e]]
  exact p.val I k (sv := .dat _) (.bl _)
  )]
  intro _ hNoI
  simpa using (fun (_ : NoI.Sg) => hNoI) [5]
theorem os_neI {i j : Int} (h1 : rd s.mem x = some (.int i)) (h2 : rd s.mem y = some (.int j)) (k : Φ (.dat (.bool (!(i == j)))) s) : OpS K Zc (rNeU K) x y s Φ := by
  refine NoI.keep (fun _ wNoI => ?_) ?_
  simp only [↓ NoI.wrOf wNoI (by
  clear wNoI
  intro ad H σ v u Q I r1 r2 p
  rw [rd_int I.mr r1 h1, rd_int I.mr r2 h2]
  refine .inl ⟨rfl, ?_⟩
  rw [show decide (V.int i = V.int j) = (i == j) by by_cases e : i = j <;> simp [e]]
  exact p.val I k (sv := .dat _) (.bl _)
  )]
  intro _ hNoI
  simpa using (fun (_ : NoI.Sg) => hNoI) [5]
theorem os_neS {i j : Str} (h1 : rd s.mem x = some (.str i)) (h2 : rd s.mem y = some (.str j)) (k : Φ (.dat (.bool (!decide (i = j)))) s) : OpS K Zc (rNeU K) x y s Φ := by
  refine NoI.keep (fun _ wNoI => ?_) ?_
  simp only [↓ NoI.wrOf wNoI (by
  clear wNoI
  intro ad H σ v u Q I r1 r2 p
  rw [rd_str I.mr r1 h1, rd_str I.mr r2 h2]
  refine .inl ⟨rfl, ?_⟩
  rw [show decide (V.str i = V.str j) = decide (i = j) by by_cases e : i = j <;> simp [e]]
  exact p.val I k (sv := .dat _) (.bl _)
  )]
  intro _ hNoI
  simpa using (fun (_ : NoI.Sg) => hNoI) [5]
theorem os_eq {d e : D} (h1 : rd s.mem x = some d) (h2 : rd s.mem y = some e) (s1 : SeqAt.shaped d = true) (s2 : SeqAt.shaped e = true) (k : Φ (.dat (.bool (PyData.eqv d e))) s) : OpS K Zc (rEqU K) x y s Φ := by
  refine NoI.keep (fun _ wNoI => ?_) ?_
  simp only [↓ NoI.wrOf wNoI (by
  clear wNoI
  intro ad H σ v u Q I r1 r2 p
  refine .inr (.inl ?_)
  exact ⟨d, e, dp_of _ _ (rd_D I.mr r1 h1) (PyData.hasDict_of_canLay _ (SeqAt.canLay_of_shaped s1)), dp_of _ _ (rd_D I.mr r2 h2) (PyData.hasDict_of_canLay _ (SeqAt.canLay_of_shaped s2)), s1, s2, p.val I k (sv := .dat _) (.bl _)⟩
  )]
  intro _ hNoI
  simpa using (fun (_ : NoI.Sg) => hNoI) [5]
theorem os_eqV {d : D} (h1 : rd s.mem x = some d) (h2 : rd s.mem y = some d) (hz : d.depth ≤ 40) (k : Φ (.dat (.bool true)) s) : OpS K Zc (rEqU K) x y s Φ := by
  intro ad H σ v u Q I r1 r2 p
  exact .inr (.inr ⟨d, rd_D I.mr r1 h1, rd_D I.mr r2 h2, hz, p.val I k (sv := .dat _) (.bl _)⟩)
theorem os_ne {d e : D} (h1 : rd s.mem x = some d) (h2 : rd s.mem y = some e) (s1 : SeqAt.shaped d = true) (s2 : SeqAt.shaped e = true) (k : Φ (.dat (.bool (!PyData.eqv d e))) s) : OpS K Zc (rNeU K) x y s Φ := by
  refine NoI.keep (fun _ wNoI => ?_) ?_
  simp only [↓ NoI.wrOf wNoI (by
  clear wNoI
  intro ad H σ v u Q I r1 r2 p
  refine .inr ?_
  exact ⟨d, e, dp_of _ _ (rd_D I.mr r1 h1) (PyData.hasDict_of_canLay _ (SeqAt.canLay_of_shaped s1)), dp_of _ _ (rd_D I.mr r2 h2) (PyData.hasDict_of_canLay _ (SeqAt.canLay_of_shaped s2)), s1, s2, p.val I k (sv := .dat _) (.bl _)⟩
  )]
  intro _ hNoI
  simpa using (fun (_ : NoI.Sg) => hNoI) [5]
/-! items -/
theorem atI_dvs {H : Hp} {vs : List V} {ds : List D} {i : Int} {d : D} (h : DVs K H vs ds) (e : atI ds i = some d) : ∃ v, atI vs i = some v ∧ DV K H v d := by
  unfold atI at e ⊢
  rw [dpAll_len h]
  cases q : ixN ds.length i with
  | none => rw [q] at e; cases e
  | some j =>
    rw [q] at e
    exact dpAll_get h e
theorem os_ixL {ds : List D} {i : Int} {d : D} (h1 : rd s.mem x = some (.list ds)) (h2 : rd s.mem y = some (.int i)) (e : atI ds i = some d) (k : Φ (.dat d) s) : OpS K Zc (rIx K) x y s Φ := by
  refine NoI.keep (fun _ wNoI => ?_) ?_
  simp only [↓ NoI.wrOf wNoI (by
  clear wNoI
  intro ad H σ v u Q I r1 r2 p
  obtain ⟨a, vs, rfl, e1, d1⟩ := rd_lst I.mr r1 h1
  obtain ⟨w, q1, q2⟩ := atI_dvs d1 e
  exact .inl ⟨a, vs, i, w, rfl, rd_int I.mr r2 h2, SqL.of e1, q1, p.val I k (sv := .dat d) q2⟩
  )]
  intro _ hNoI
  simpa using (fun (_ : NoI.Sg) => hNoI) [5]
theorem os_ixT {ds : List D} {i : Int} {d : D} (h1 : rd s.mem x = some (.tuple ds)) (h2 : rd s.mem y = some (.int i)) (e : atI ds i = some d) (k : Φ (.dat d) s) : OpS K Zc (rIx K) x y s Φ := by
  refine NoI.keep (fun _ wNoI => ?_) ?_
  simp only [↓ NoI.wrOf wNoI (by
  clear wNoI
  intro ad H σ v u Q I r1 r2 p
  obtain ⟨a, vs, rfl, e1, d1⟩ := rd_tup I.mr r1 h1
  obtain ⟨w, q1, q2⟩ := atI_dvs d1 e
  exact .inr (.inl ⟨a, vs, i, w, rfl, rd_int I.mr r2 h2, e1, q1, p.val I k (sv := .dat d) q2⟩)
  )]
  intro _ hNoI
  simpa using (fun (_ : NoI.Sg) => hNoI) [5]
theorem os_ixS {z : Str} {i : Int} {c : Nat} (h1 : rd s.mem x = some (.str z)) (h2 : rd s.mem y = some (.int i)) (hz : z.length ≤ sizeLine) (e : atI z.cps.toList i = some c) (k : Φ (.dat (.str ⟨#[c]⟩)) s) : OpS K Zc (rIx K) x y s Φ := by
  intro ad H σ v u Q I r1 r2 p
  exact .inr (.inr ⟨z, i, c, rd_str I.mr r1 h1, rd_int I.mr r2 h2, hz, e, p.val I k (sv := .dat _) (.str _)⟩)
/-! slices -/
def PtS (K : PySem.W.Frag) (Zc : Addr → Prop) (t : TO) (s : S) (Φ : Option Int → S → Prop) : Prop :=
  ∀ ad H σ (Q : Option Int → Hp → Prop), SR K Zc ad H σ s → (∀ o ad' H' s', Φ o s' → SR K Zc ad' H' σ s' → Frm Zc s.mem.length ad s.mem H ad' s'.mem H' → Q o H') → t σ H Q
theorem pt_none {Ψ : Option Int → S → Prop} (k : Ψ none s) : PtS K Zc tNoPart s Ψ := fun ad H σ Q I p => p none ad H s k I (.refl (Nat.le_refl _))
theorem pt_part {te : TE} {Ψ : Option Int → S → Prop} (h : EvS K Zc te s fun sv s' => ∃ i, sv = .dat (.int i) ∧ Ψ (some i) s') : PtS K Zc (tPart te) s Ψ := by
  intro ad H σ Q I p
  refine h ad H σ _ I fun v ad1 H1 sv s1 h1 I1 F1 r1 => ?_
  obtain ⟨i, rfl, k⟩ := h1
  cases r1
  exact ⟨i, rfl, p _ ad1 H1 s1 k I1 F1⟩
def SlS (K : PySem.W.Frag) (Zc : Addr → Prop) (r : V → Option Int → Option Int → Hp → VK → Prop) (x : SV) (lo hi : Option Int) (s : S) (Φ : SV → S → Prop) : Prop :=
  ∀ ad H σ v Q, SR K Zc ad H σ s → VR K Zc ad s.mem H v x → Post K Zc ad H σ s Φ Q → r v lo hi H Q
theorem ev_sl {r : V → Option Int → Option Int → Hp → VK → Prop} {te : TE} {tl th : TO} (h : EvS K Zc te s fun x s1 => PtS K Zc tl s1 fun l s2 => PtS K Zc th s2 fun u s3 => SlS K Zc r x l u s3 Φ) : EvS K Zc (tSl r te tl th) s Φ := by
  refine NoI.keep (fun _ wNoI => ?_) ?_
  simp only [↓ NoI.wrOf wNoI (by
  clear wNoI
  intro ad H σ Q I p
  refine h ad H σ _ I fun v ad1 H1 sv s1 h1 I1 F1 r1 => h1 ad1 H1 σ _ I1 fun l ad2 H2 s2 h2 I2 F2 => h2 ad2 H2 σ _ I2 fun u ad3 H3 s3 h3 I3 F3 => ?_
  exact h3 ad3 H3 σ v Q I3 ((r1.frm F2).frm F3) (((p.step F1).step F2).step F3)
  )]
  intro _ hNoI
  simpa using (fun (_ : NoI.Sg) => hNoI) [5]
def cutD (xs : List D) (lo hi : Option Int) : List D := (xs.drop (HT.sIx xs.length 0 lo)).take (HT.sIx xs.length xs.length hi - HT.sIx xs.length 0 lo)
theorem cut_dvs {H : Hp} {vs : List V} {ds : List D} {lo hi : Option Int} (h : DVs K H vs ds) : DVs K H (cutV vs lo hi) (cutD ds lo hi) := by
  unfold cutV cutD
  rw [dpAll_len h]
  exact dpAll_take _ (dpAll_drop _ h)
theorem sl_L {ds : List D} {lo hi : Option Int} (h1 : rd s.mem x = some (.list ds)) (k : Φ (.own s.mem.length) ⟨s.sl, s.mem ++ [some (.list (cutD ds lo hi))]⟩) : SlS K Zc (rSlU K) x lo hi s Φ := by
  intro ad H σ v Q I r1 p
  obtain ⟨a, vs, rfl, e1, d1⟩ := rd_lst I.mr r1 h1
  exact .inl (.inl ⟨a, vs, rfl, SqL.of e1, fun q hq => p.lst I k hq (cut_dvs d1)⟩)
theorem sl_ro {ns : List Int} {lo hi : Option Int} (h1 : x = .ro ns) (k : Φ (.own s.mem.length) ⟨s.sl, s.mem ++ [some (.list (cutD (ns.map PyData.int) lo hi))]⟩) : SlS K Zc (rSlU K) x lo hi s Φ := by
  refine NoI.keep (fun _ wNoI => ?_) ?_
  simp only [↓ NoI.wrOf wNoI (by
  clear wNoI
  intro ad H σ v Q I r1 p
  subst h1
  obtain ⟨a, rfl, e1⟩ := r1
  refine .inl (.inl ⟨a, _, rfl, Same.seq Fz_le e1, fun q hq => p.lst I k hq (cut_dvs ?_)⟩)
  clear k e1
  induction ns with
  | nil => exact .nil
  | cons n ns ih => exact .cons (.int n) ih
  )]
  intro _ hNoI
  simpa using (fun (_ : NoI.Sg) => hNoI) [5]
theorem cutD_whole {ds : List D} {lo hi : Option Int} (h : HT.sIx ds.length 0 lo = 0 ∧ HT.sIx ds.length ds.length hi = ds.length) : cutD ds lo hi = ds := by
  unfold cutD
  rw [h.1, h.2, List.drop_zero, Nat.sub_zero, List.take_length]
theorem sl_T {ds : List D} {lo hi : Option Int} (h1 : rd s.mem x = some (.tuple ds)) (k : Φ (.dat (.tuple (cutD ds lo hi))) s) : SlS K Zc (rSlU K) x lo hi s Φ := by
  refine NoI.keep (fun _ wNoI => ?_) ?_
  simp only [↓ NoI.wrOf wNoI (by
  clear wNoI
  intro ad H σ v Q I r1 p
  obtain ⟨a, vs, rfl, e1, d1⟩ := rd_tup I.mr r1 h1
  refine .inl (.inr ⟨a, vs, rfl, e1, fun w => ?_, fun _ => p.tup I k (cut_dvs d1)⟩)
  rw [dpAll_len d1] at w
  rw [cutD_whole w] at k
  obtain rfl := rd_tupD I.mr r1 h1
  exact p.val I k r1
  )]
  intro _ hNoI
  simpa using (fun (_ : NoI.Sg) => hNoI) [5]
theorem sl_S {z : Str} {lo hi : Option Int} (h1 : rd s.mem x = some (.str z)) (hz : z.length ≤ sizeLine) (k : Φ (.dat (.str (cutS z lo hi))) s) : SlS K Zc (rSlU K) x lo hi s Φ := by
  intro ad H σ v Q I r1 p
  exact .inr ⟨z, rd_str I.mr r1 h1, hz, p.val I k (sv := .dat _) (.str _)⟩

/-! ### calls of built-ins -/
def CbS (K : PySem.W.Frag) (Zc : Addr → Prop) (r : List V → Hp → VK → Prop) (xs : List SV) (s : S) (Φ : SV → S → Prop) : Prop :=
  ∀ ad H σ vs Q, SR K Zc ad H σ s → VRs K Zc ad s.mem H vs xs → Post K Zc ad H σ s Φ Q → r vs H Q
theorem ev_cb {r : List V → Hp → VK → Prop} {ta : TA} (h : ArS K Zc ta s fun xs s1 => CbS K Zc r xs s1 Φ) : EvS K Zc (tCB r ta) s Φ := by
  intro ad H σ Q I p
  exact h ad H σ _ I fun vs ad1 H1 svs s1 h1 I1 F1 r1 => h1 ad1 H1 σ vs Q I1 r1 (p.step F1)
theorem vrs1 {ad : List Addr} {m : Mem} {H : Hp} {vs : List V} {x : SV} (h : VRs K Zc ad m H vs [x]) : ∃ v, vs = [v] ∧ VR K Zc ad m H v x := by
  match vs, h with
  | [v], h => exact ⟨v, rfl, h.1⟩
  | [], h => exact h.elim
  | _ :: _ :: _, h => exact h.2.elim
theorem vrs2 {ad : List Addr} {m : Mem} {H : Hp} {vs : List V} {x y : SV} (h : VRs K Zc ad m H vs [x, y]) : ∃ v u, vs = [v, u] ∧ VR K Zc ad m H v x ∧ VR K Zc ad m H u y := by
  refine NoI.keep (fun _ wNoI => ?_) ?_
  simp only [↓ NoI.wrOf wNoI (by
  clear wNoI
  match vs, h with
  | [v, u], h => exact ⟨v, u, rfl, h.1, h.2.1⟩
  | [], h => exact h.elim
  | [_], h => exact h.2.elim
  | _ :: _ :: _ :: _, h => exact h.2.2.elim
  )]
  intro _ hNoI
  simpa using (fun (_ : NoI.Sg) => hNoI) [5]
def rLenU (K : PySem.W.Frag) : List V → Hp → VK → Prop := fun xs H Q => ∃ x n, xs = [x] ∧ LenV K x H n ∧ Q (.int n) H
theorem cb_lenL {ds : List D} (h1 : rd s.mem x = some (.list ds)) (k : Φ (.dat (.int ds.length)) s) : CbS K Zc (rLenU K) [x] s Φ := by
  refine NoI.keep (fun _ wNoI => ?_) ?_
  simp only [↓ NoI.wrOf wNoI (by
  clear wNoI
  intro ad H σ vs Q I r p
  obtain ⟨v, rfl, r1⟩ := vrs1 r
  obtain ⟨a, us, rfl, e1, d1⟩ := rd_lst I.mr r1 h1
  exact ⟨_, ds.length, rfl, .inl ⟨us, SqL.of e1, (dpAll_len d1).symm⟩, p.val I k (sv := .dat _) (.int _)⟩
  )]
  intro _ hNoI
  simpa using (fun (_ : NoI.Sg) => hNoI) [5]
theorem cb_lenT {ds : List D} (h1 : rd s.mem x = some (.tuple ds)) (k : Φ (.dat (.int ds.length)) s) : CbS K Zc (rLenU K) [x] s Φ := by
  refine NoI.keep (fun _ wNoI => ?_) ?_
  simp only [↓ NoI.wrOf wNoI (by
  clear wNoI
  intro ad H σ vs Q I r p
  obtain ⟨v, rfl, r1⟩ := vrs1 r
  obtain ⟨a, us, rfl, e1, d1⟩ := rd_tup I.mr r1 h1
  exact ⟨_, ds.length, rfl, .inr ⟨us, e1, (dpAll_len d1).symm⟩, p.val I k (sv := .dat _) (.int _)⟩
  )]
  intro _ hNoI
  simpa using (fun (_ : NoI.Sg) => hNoI) [5]
theorem cb_lenS {z : Str} (h1 : rd s.mem x = some (.str z)) (hz : z.length ≤ sizeLine) (k : Φ (.dat (.int z.length)) s) : CbS K Zc (rLenU K) [x] s Φ := by
  refine NoI.keep (fun _ wNoI => ?_) ?_
  simp only [↓ NoI.wrOf wNoI (by
  clear wNoI
  intro ad H σ vs Q I r p
  obtain ⟨v, rfl, r1⟩ := vrs1 r
  have := rd_str I.mr r1 h1
  subst this
  exact ⟨_, z.length, rfl, ⟨hz, rfl⟩, p.val I k (sv := .dat _) (.int _)⟩
  )]
  intro _ hNoI
  simpa using (fun (_ : NoI.Sg) => hNoI) [5]
def rAbs : List V → Hp → VK → Prop := fun xs H Q => ∃ i, xs = [.int i] ∧ Q (.int (if i < 0 then -i else i)) H
theorem cb_abs {i : Int} (h1 : rd s.mem x = some (.int i)) (k : Φ (.dat (.int (if i < 0 then -i else i))) s) : CbS K Zc rAbs [x] s Φ := by
  intro ad H σ vs Q I r p
  obtain ⟨v, rfl, r1⟩ := vrs1 r
  exact ⟨i, by rw [rd_int I.mr r1 h1], p.val I k (sv := .dat _) (.int _)⟩
def rInt1 : List V → Hp → VK → Prop := fun xs H Q => (∃ i, xs = [.int i] ∧ Q (.int i) H) ∨ ∃ k, xs = [.bl k] ∧ Q (.int (if k then 1 else 0)) H
theorem cb_int {i : Int} (h1 : rd s.mem x = some (.int i)) (k : Φ (.dat (.int i)) s) : CbS K Zc rInt1 [x] s Φ := by
  intro ad H σ vs Q I r p
  obtain ⟨v, rfl, r1⟩ := vrs1 r
  exact .inl ⟨i, by rw [rd_int I.mr r1 h1], p.val I k (sv := .dat _) (.int _)⟩
def rListU (K : PySem.W.Frag) : List V → Hp → VK → Prop := fun xs H Q => ∃ p ys, xs = [.ref p] ∧ (SqL K H p ys ∨ SqT K H p ys) ∧ ∀ l, H l = none → Q (.ref l) (upd H l (.lst ys))
theorem cb_listL {ds : List D} (h1 : rd s.mem x = some (.list ds)) (k : Φ (.own s.mem.length) ⟨s.sl, s.mem ++ [some (.list ds)]⟩) : CbS K Zc (rListU K) [x] s Φ := by
  refine NoI.keep (fun _ wNoI => ?_) ?_
  simp only [↓ NoI.wrOf wNoI (by
  clear wNoI
  intro ad H σ vs Q I r p
  obtain ⟨v, rfl, r1⟩ := vrs1 r
  obtain ⟨a, us, rfl, e1, d1⟩ := rd_lst I.mr r1 h1
  exact ⟨a, us, rfl, .inl (SqL.of e1), fun q hq => p.lst I k hq d1⟩
  )]
  intro _ hNoI
  simpa using (fun (_ : NoI.Sg) => hNoI) [5]
theorem cb_listT {ds : List D} (h1 : rd s.mem x = some (.tuple ds)) (k : Φ (.own s.mem.length) ⟨s.sl, s.mem ++ [some (.list ds)]⟩) : CbS K Zc (rListU K) [x] s Φ := by
  refine NoI.keep (fun _ wNoI => ?_) ?_
  simp only [↓ NoI.wrOf wNoI (by
  clear wNoI
  intro ad H σ vs Q I r p
  obtain ⟨v, rfl, r1⟩ := vrs1 r
  obtain ⟨a, us, rfl, e1, d1⟩ := rd_tup I.mr r1 h1
  exact ⟨a, us, rfl, .inr e1, fun q hq => p.lst I k hq d1⟩
  )]
  intro _ hNoI
  simpa using (fun (_ : NoI.Sg) => hNoI) [5]
theorem cb_tupL {ds : List D} (h1 : rd s.mem x = some (.list ds)) (k : Φ (.dat (.tuple ds)) s) : CbS K Zc (rTupU K) [x] s Φ := by
  refine NoI.keep (fun _ wNoI => ?_) ?_
  simp only [↓ NoI.wrOf wNoI (by
  clear wNoI
  intro ad H σ vs Q I r p
  obtain ⟨v, rfl, r1⟩ := vrs1 r
  obtain ⟨a, us, rfl, e1, d1⟩ := rd_lst I.mr r1 h1
  exact ⟨a, us, rfl, .inl ⟨SqL.of e1, p.tup I k d1⟩⟩
  )]
  intro _ hNoI
  simpa using (fun (_ : NoI.Sg) => hNoI) [5]
theorem cb_tupT {ds : List D} (h1 : rd s.mem x = some (.tuple ds)) (k : Φ (.dat (.tuple ds)) s) : CbS K Zc (rTupU K) [x] s Φ := by
  refine NoI.keep (fun _ wNoI => ?_) ?_
  simp only [↓ NoI.wrOf wNoI (by
  clear wNoI
  intro ad H σ vs Q I r p
  obtain ⟨v, rfl, r1⟩ := vrs1 r
  have hx := rd_tupD I.mr r1 h1
  subst hx
  obtain ⟨a, us, rfl, e1, d1⟩ := rd_tup I.mr r1 h1
  exact ⟨a, us, rfl, .inr ⟨e1, p.val I k r1⟩⟩
  )]
  intro _ hNoI
  simpa using (fun (_ : NoI.Sg) => hNoI) [5]
/-- repr of a list or a tuple -/
def rReprU (K : PySem.W.Frag) : List V → Hp → VK → Prop := fun xs H Q => ∃ a d, xs = [.ref a] ∧ Dp K H (.ref a) d ∧ d.showable = true ∧ d.hasDict = false ∧ d.depth ≤ 60 ∧ d.shown.length ≤ sizeLine ∧ Q (.str d.shown) H
theorem call_reprU {X : Cx} {k : Nat} (hg : X.A.guards = some []) (hr : Room k X.A) : CallR X (.builtin "repr") (rReprU X.K) := by
  refine NoI.keep (fun _ wNoI => ?_) ?_
  simp only [↓ NoI.wrOf wNoI (by
  clear wNoI
  intro pins s σ H xs us Q I r h
  obtain ⟨a, d, rfl, hd, h1, h2, h3, h4, q⟩ := h
  obtain ⟨u, rfl, rx⟩ := vals1 r
  cases rx
  obtain ⟨as, r1⟩ := Dp.reads I d _ _ hd rfl
  have := hr.units
  exact repr_of_reads' r1 h1 (PyData.noDict_hsm h2) hg (by omega) (fun _ _ e => e) (fun h' u tk hk => ⟨.str _, H, I.kept hk, ⟨_, rfl⟩, q⟩) h4
  )]
  intro _ hNoI
  simpa using (fun (_ : NoI.Sg) => hNoI) [5]
theorem cb_repr {d : D} (h1 : rd s.mem x = some d) (hl : (∃ ds, d = .list ds) ∨ ∃ ds, d = .tuple ds) (h2 : d.showable = true) (h3 : d.hasDict = false) (h4 : d.depth ≤ 60) (h5 : d.shown.length ≤ sizeLine) (k : Φ (.dat (.str d.shown)) s) : CbS K Zc (rReprU K) [x] s Φ := by
  refine NoI.keep (fun _ wNoI => ?_) ?_
  simp only [↓ NoI.wrOf wNoI (by
  clear wNoI
  intro ad H σ vs Q I r p
  obtain ⟨v, rfl, r1⟩ := vrs1 r
  have e := rd_D I.mr r1 h1
  have e' := dp_of _ _ e h3
  rcases hl with ⟨ds, rfl⟩ | ⟨ds, rfl⟩
  · cases e' with
    | lst a b => exact ⟨_, _, rfl, .lst a b, h2, h3, h4, h5, p.val I k (sv := .dat _) (.str _)⟩
  · cases e' with
    | tup a b => exact ⟨_, _, rfl, .tup a b, h2, h3, h4, h5, p.val I k (sv := .dat _) (.str _)⟩
  )]
  intro _ hNoI
  simpa using (fun (_ : NoI.Sg) => hNoI) [5]
/-! ### methods -/
def MtS (K : PySem.W.Frag) (Zc : Addr → Prop) (r : V → List V → Hp → VK → Prop) (x : SV) (xs : List SV) (s : S) (Φ : SV → S → Prop) : Prop :=
  ∀ ad H σ v vs Q, SR K Zc ad H σ s → VR K Zc ad s.mem H v x → VRs K Zc ad s.mem H vs xs → Post K Zc ad H σ s Φ Q → r v vs H Q
theorem ev_bmL {r : V → List V → Hp → VK → Prop} {to : TE} {ta : TA} (h : EvS K Zc to s fun x s1 => (∃ ds, rd s1.mem x = some (.list ds)) ∧ ArS K Zc ta s1 fun xs s2 => MtS K Zc r x xs s2 Φ) : EvS K Zc (tBM K "list" r to ta) s Φ := by
  refine NoI.keep (fun _ wNoI => ?_) ?_
  simp only [↓ NoI.wrOf wNoI (by
  clear wNoI
  intro ad H σ Q I p
  refine h ad H σ _ I fun v ad1 H1 x s1 h1 I1 F1 r1 => ?_
  obtain ⟨⟨ds, e⟩, h1⟩ := h1
  obtain ⟨a, vs, rfl, e1, d1⟩ := rd_lst I1.mr r1 e
  exact ⟨.inl ⟨rfl, vs, SqL.of e1⟩, h1 ad1 H1 σ _ I1 fun vs ad2 H2 svs s2 h2 I2 F2 r2 => h2 ad2 H2 σ _ vs Q I2 (r1.frm F2) r2 ((p.step F1).step F2)⟩
  )]
  intro _ hNoI
  simpa using (fun (_ : NoI.Sg) => hNoI) [5]
theorem ev_bmL0 {r : V → List V → Hp → VK → Prop} {to : TE} (h : EvS K Zc to s fun x s1 => (∃ ds, rd s1.mem x = some (.list ds)) ∧ MtS K Zc r x [] s1 Φ) : EvS K Zc (tBM0 K "list" r to) s Φ := by
  refine NoI.keep (fun _ wNoI => ?_) ?_
  simp only [↓ NoI.wrOf wNoI (by
  clear wNoI
  intro ad H σ Q I p
  refine h ad H σ _ I fun v ad1 H1 x s1 h1 I1 F1 r1 => ?_
  obtain ⟨⟨ds, e⟩, h1⟩ := h1
  obtain ⟨a, vs, rfl, e1, d1⟩ := rd_lst I1.mr r1 e
  exact ⟨.inl ⟨rfl, vs, SqL.of e1⟩, h1 ad1 H1 σ _ [] Q I1 r1 trivial (p.step F1)⟩
  )]
  intro _ hNoI
  simpa using (fun (_ : NoI.Sg) => hNoI) [5]
theorem own_at {ad : List Addr} {H : Hp} {m : Mem} {v : V} {i : Nat} {ds : List D} (h : MR K Zc ad H m) (r : VR K Zc ad m H v (.own i)) (e : m[i]? = some (some (.list ds))) : ∃ a vs, v = .ref a ∧ ad[i]? = some a ∧ H a = some (.lst vs) ∧ DVs K (FZ Zc ad m H) vs ds := by
  obtain ⟨a, o, rfl, h2, q2, q3⟩ := rd_obj h r e
  cases q3 with
  | lst q3 => exact ⟨a, _, rfl, h2, q2, q3⟩
theorem Post.putC {ad : List Addr} {H : Hp} {σ : L2.St} {Q : VK} {i : Nat} {ds es : D} {a : Addr} {u : HO} {v : V} {sv : SV} (p : Post K Zc ad H σ s Φ Q) (I : SR K Zc ad H σ s) (e : s.mem[i]? = some (some ds)) (ha : ad[i]? = some a) (hv : Cell K (FZ Zc ad s.mem H) a u es)
    (r : VR K Zc ad s.mem H v sv) (k : Φ sv ⟨s.sl, s.mem.set i (some es)⟩) : Q v (upd H a u) :=
  p v ad _ sv _ k (I.put e ha hv) (Frm.put e ha) (r.frm (Frm.put e ha))
theorem Post.put {ad : List Addr} {H : Hp} {σ : L2.St} {Q : VK} {i : Nat} {ds es : List D} {a : Addr} {vs : List V} {v : V} {sv : SV} (p : Post K Zc ad H σ s Φ Q) (I : SR K Zc ad H σ s) (e : s.mem[i]? = some (some (.list ds))) (ha : ad[i]? = some a) (hv : DVs K (FZ Zc ad s.mem H) vs es)
    (r : VR K Zc ad s.mem H v sv) (k : Φ sv ⟨s.sl, s.mem.set i (some (.list es))⟩) : Q v (upd H a (.lst vs)) := p.putC I e ha (.lst hv) r k
theorem mt_appendS {i : Nat} {ds : List D} {d : D} (e : s.mem[i]? = some (some (.list ds))) (hz : ds.length < sizeLine) (k : Φ (.dat .none) ⟨s.sl, s.mem.set i (some (.list (ds ++ [d])))⟩) : MtS K Zc rAppend (.own i) [.dat d] s Φ := by
  refine NoI.keep (fun _ wNoI => ?_) ?_
  simp only [↓ NoI.wrOf wNoI (by
  clear wNoI
  intro ad H σ v vs Q I r1 r2 p
  obtain ⟨y, rfl, ry⟩ := vrs1 r2
  obtain ⟨a, us, rfl, ha, hH, hd⟩ := own_at I.mr r1 e
  exact ⟨a, us, y, rfl, rfl, hH, by rw [dpAll_len hd]; exact hz, p.put I e ha (dpAll_append hd (.cons ry .nil)) (sv := .dat .none) .non k⟩
  )]
  intro _ hNoI
  simpa using (fun (_ : NoI.Sg) => hNoI) [5]
theorem dvs_dropLast {H : Hp} : ∀ {vs : List V} {ds : List D}, DVs K H vs ds → DVs K H vs.dropLast ds.dropLast := fun {vs ds} h => by
  rw [List.dropLast_eq_take, List.dropLast_eq_take, dpAll_len h]
  exact dpAll_take _ h
theorem mt_popS {i : Nat} {ds : List D} {d : D} (e : s.mem[i]? = some (some (.list ds))) (hl : ds.getLast? = some d) (k : Φ (.dat d) ⟨s.sl, s.mem.set i (some (.list ds.dropLast))⟩) : MtS K Zc rPop (.own i) [] s Φ := by
  refine NoI.keep (fun _ wNoI => ?_) ?_
  simp only [↓ NoI.wrOf wNoI (by
  clear wNoI
  intro ad H σ v vs Q I r1 r2 p
  have : vs = [] := by
    match vs, r2 with
    | [], _ => rfl
    | _ :: _, h => exact h.elim
  subst this
  obtain ⟨a, us, rfl, ha, hH, hd⟩ := own_at I.mr r1 e
  rw [List.getLast?_eq_getElem?] at hl
  obtain ⟨w, q1, q2⟩ := dpAll_get hd hl
  refine ⟨a, us, w, rfl, rfl, hH, by rw [dpAll_len hd]; exact q1, ?_⟩
  exact p.put I e ha (dvs_dropLast hd) (sv := .dat d) q2 k
  )]
  intro _ hNoI
  simpa using (fun (_ : NoI.Sg) => hNoI) [5]
def rInsert : V → List V → Hp → VK → Prop := fun x vs H Q => ∃ (l : Addr) (xs : List V) (i : Int) (y : V), x = .ref l ∧ vs = [.int i, y] ∧ H l = some (.lst xs) ∧ xs.length < sizeLine ∧ 0 ≤ i ∧ i < 2 ^ 63 ∧ Q .non (upd H l (.lst (xs.take i.toNat ++ [y] ++ xs.drop i.toNat)))
theorem mt_insertS {i : Nat} {ds : List D} {d : D} {j : Int} (e : s.mem[i]? = some (some (.list ds))) (hz : ds.length < sizeLine) (h0 : 0 ≤ j) (h1 : j < 2 ^ 63) (k : Φ (.dat .none) ⟨s.sl, s.mem.set i (some (.list (ds.take j.toNat ++ [d] ++ ds.drop j.toNat)))⟩) :
    MtS K Zc rInsert (.own i) [.dat (.int j), .dat d] s Φ := by
  refine NoI.keep (fun _ wNoI => ?_) ?_
  simp only [↓ NoI.wrOf wNoI (by
  clear wNoI
  intro ad H σ v vs Q I r1 r2 p
  obtain ⟨x, y, rfl, rx, ry⟩ := vrs2 r2
  cases rx
  obtain ⟨a, us, rfl, ha, hH, hd⟩ := own_at I.mr r1 e
  exact ⟨a, us, j, y, rfl, rfl, hH, by rw [dpAll_len hd]; exact hz, h0, h1, p.put I e ha (dpAll_append (dpAll_append (dpAll_take _ hd) (.cons ry .nil)) (dpAll_drop _ hd)) (sv := .dat .none) .non k⟩
  )]
  intro _ hNoI
  simpa using (fun (_ : NoI.Sg) => hNoI) [5]
end
end SH

namespace SH
open PySem PySem.Spec PyProof.Rows L2

/-! ### what a def promises where no repr of a list is under way -/
structure FnG (P : Program) (w : World) (K : PySem.W.Frag) (mg : Str → Option Value)
    (base : Heap) (CX : CXT) (k : Nat) (f : Addr) (fd : FuncData) (ps : List Str) (sp : Sp) : Prop where
  len : ∀ vs H Q E, sp vs H Q E → vs.length = ps.length
  run : ∀ (A : Around) (outer : List Env) (s : Shared) (H : Hp) (args : Args)
    (us : List Value) (vs : List V) (Q : VK) (E : XK), A.guards = some [] → Room k A →
    Env0 P w K mg base A outer s H → BindsTo s fd args (ps.zip us) → Vals vs us →
    sp vs H Q E → codeAny (model P w) A (.call (.ref f) args) (CR CX outer P w H s Q E) s
section
variable {P : Program} {w : World} {K : PySem.W.Frag} {mg : Str → Option Value}
  {base : Heap} {CX : CXT} {f : Addr} {fd : FuncData} {sp : Sp}
theorem FnG.mono {j k : Nat} {ps : List Str} (F : FnG P w K mg base CX j f fd ps sp)
    (h : j ≤ k) : FnG P w K mg base CX k f fd ps sp :=
  ⟨F.len, fun A o s H a us vs Q E g r => F.run A o s H a us vs Q E g (r.mono h)⟩
theorem fnG_of {x qual : Str} {st : Stmt} {N ps : List Str} {k : Nat}
    (F : Fun K x qual st f fd) (S : FnScope N ps (defScope st))
    (len : ∀ vs H Q E, sp vs H Q E → vs.length = ps.length)
    (body : ∀ (cdv : Value) (A : Around) (outer : List Env) (s : Shared) (H : Hp)
      (vs : List V) (Q : VK) (E : XK), A.guards = some [] →
      Room k (A.deeper (envOfC qual (defScope st) s.heap.objs.size f cdv)) → sp vs H Q E →
      ∃ t, PSs (cxOf CX P w K mg base N qual (defScope st) f cdv A outer s H E) (defBody st) t ∧
        t { nx := fun _ H' => Q .non H', rt := Q } (start N vs) H) :
    FnG P w K mg base CX (k + 1) f fd ps sp := by
  refine NoI.keep (fun _ wNoI => ?_) ?_
  simp only [↓ NoI.wrOf wNoI (by
  clear wNoI
  obtain ⟨oc, od, kV, doc, pm, an, cdv, ct, osl, rfl, lk, cdk⟩ := F.ex
  refine ⟨len, fun A outer s H args us vs Q E hG hR e0 bt rv sh => ?_⟩
  have n0 := len _ _ _ _ sh
  have kIn : K.In s.heap := e0.mod.kin.keeps fun b o e => (e0.bs b o e).1
  have noLim : s.heap.NoLimit := e0.mod.nolimit.keeps fun b o e => (e0.bs b o e).1
  have kinds : ∀ y ∈ ps.zip us, (defScope st).names.lookup y.1 = some .local ∨
      ((defScope st).names.lookup y.1 = some .cell ∧
        ((cellsFrom (s.heap.objs.size + 1) (defScope st).names []).lookup y.1).isSome = true) := by
    rintro ⟨n, v⟩ hy
    exact (S.par n (List.of_mem_zip hy).1).imp id fun q => ⟨q, PySem.W.cellsFrom_some _ _ _ (.inl q)⟩
  refine codeAny_call_function hR.depth (kIn _ _ lk) rfl S.co S.gen rfl
    (PySem.W.codeRec_of kIn cdk) (bt _ _ _ _ ?_)
  refine wpAny_newFunctionEnv_cells S.kind kinds ?_
  intro env he s1 x
  subst he
  refine ⟨noLim.keeps x.toInCall.keep, codeAny_func ?_⟩
  obtain ⟨t, ht, hq⟩ := body cdv A outer s H vs Q E hG (hR.deeper _) sh
  have J := inv_start S hR.hd e0 n0 rv x (CX := CX) (E := E)
  refine wpAny_mono (ht.run [] s1 (start N vs) H _ J hq) ?_ fun e s' z => z
  intro fl s' z
  cases fl with
  | ret u =>
    obtain ⟨v, σ', H', J', r', q⟩ := z
    exact ⟨v, H', J'.os, J'.bare, J'.base, J'.hok, r', q⟩
  | next =>
    obtain ⟨σ', H', J', q⟩ := z
    exact ⟨V.non, H', J'.os, J'.bare, J'.base, J'.hok, rfl, q⟩
  | brk => exact False.elim z.choose_spec.choose_spec.2
  | cont => exact False.elim z.choose_spec.choose_spec.2
  )]
  intro _ hNoI
  simpa using (fun (_ : NoI.Sg) => hNoI) [5]
end
/-! ### its call -/
section
variable {X : Cx} {CX : CXT} {k : Nat} {f : Addr} {fd : FuncData} {ps : List Str} {sp : Sp}
  {dvs : List V} {ds : List Value} {E : XK} {x : Str} {p pos : Pos} {e : Expr} {es : List Expr} {t : TA}
theorem runG {pins : List (Addr × Obj)} {σ : L2.St} {H : Hp} {s : Shared} {Q : VK} {us : List Value} {vs : List V}
    (F : FnG X.prog X.w X.K X.mg X.base CX k f fd ps sp) (hG : X.A.guards = some []) (hr : Room k X.A)
    (hb : Binds X.K fd ps ds) (hd : Vals dvs ds) (hx : Passes CX X E) (I : Inv X pins σ H s)
    (r : Vals vs us) (h : sp (vs ++ dvs) H Q E) :
    wpAny (model X.prog X.w) X.A (call (.ref f) us) (EP X pins σ Q) X.xe s := by
  refine NoI.keep (fun _ wNoI => ?_) ?_
  simp only [↓ NoI.wrOf wNoI (by
  clear wNoI
  have rr : Vals (vs ++ dvs) (us ++ ds) := r.append hd
  have n0 : (us ++ ds).length = ps.length := rr.length ▸ F.len _ _ _ _ h
  refine wpAny_call (codeAny_mono (F.run X.A X.stack s H ⟨us, []⟩ (us ++ ds) (vs ++ dvs) Q E hG hr
    I.env0 (hb s us I.kIn n0) rr h) ?_)
  rintro (e | fl) s' hq
  · exact hx pins σ H s e s' I hq
  · cases fl with
    | ret u => exact I.after hq
    | next => exact hq.elim
    | brk => exact hq.elim
    | cont => exact hq.elim
  )]
  intro _ hNoI
  simpa using (fun (_ : NoI.Sg) => hNoI) [5]
theorem pe_callG (F : FnG X.prog X.w X.K X.mg X.base CX k f fd ps sp) (hG : X.A.guards = some [])
    (hr : Room k X.A) (hg : Gl X x) (hm : X.mg x = some (.ref f)) (hk : PySem.W.keepIn X.K (.ref f) = true)
    (hb : Binds X.K fd ps ds) (hd : Vals dvs ds) (hx : Passes CX X E) (ha : PA X (e :: es) t)
    (hdb : (x == ("__debug__" : Str)) = false := by decide)
    (he : starEach (e :: es) X.env = (false, eval e X.env) :: starEach es X.env := by rfl)
    (hpl : (backTo pos (starEach es X.env)).any (·.1) = false := by rfl) :
    PE X (.Call (.Name x p) (e :: es) [] pos) (tCall sp dvs E t) := by
  refine NoI.keep (fun _ wNoI => ?_) ?_
  simp only [↓ NoI.wrOf wNoI (by
  clear wNoI
  refine ⟨fun pins s σ H Q I h => wpAny_Call_Name_kw (ld_glob I hg hm ?_ hdb)⟩
  refine PySem.W.callWith_K (h₀ := X.base) I.ok.mod.kin hk ?_ he hpl
  refine thn (ha.run pos pins s σ H _ I h) ?_
  rintro us s1 ⟨vs, H1, J, r, q⟩
  exact ⟨J.kIn, runG F hG hr hb hd hx J r q⟩
  )]
  intro _ hNoI
  simpa using (fun (_ : NoI.Sg) => hNoI) [5]
end
/-! ### the head: the law's call behind the top -/
theorem only_one {a : Addr} {u : HO} {b : Addr} {z : HO}
    (h : (if b = a then some u else none) = some z) : b = a ∧ u = z := by
  by_cases e : b = a
  · rw [if_pos e] at h; exact ⟨e, Option.some.inj h⟩
  · rw [if_neg e] at h; cases h
theorem law_callG {P : Program} {w : World} {K : PySem.W.Frag} {mg mb : Str → Option Value} {k : Nat}
    {fa a : Addr} {fd : FuncData} {x : Str} {sp : Sp} {s1 : Shared} {vs : List Value} {ns : List Int}
    (kIn : K.In s1.heap) (hmg : s1.heap.Ns mainGlobals mg) (hmb : s1.heap.Ns builtinsNs mb)
    (hbb : ∀ x : Str, x ≠ "__name__" → mb x = bootBuiltins x) (noLim : s1.heap.NoLimit) (hgen : s1.gens = #[])
    (ha : s1.heap.get? a = some { cls := .type "list", data := .seq vs.toArray }) (hInts : IntsAre vs ns)
    (small : ns.length ≤ sizeLine) (hr : Room k callerA)
    (F : ∀ base : Heap, K.In base → base.Ns mainGlobals mg → FnG P w K mg base CX0 k fa fd [x] sp)
    (bind : ∀ (s : Shared) (u : Value), BindsTo s fd ⟨[u], []⟩ [(x, u)])
    (hsp : ∀ H : Hp, Only H → SqL K H a (ns.map V.int) → sp [.ref a] H (fun v _ => v = .bl true) fun _ _ _ => False) :
    codeAny (model P w) callerA (.call (.ref fa) ⟨[.ref a], []⟩)
      (fun r s' => r = .ok (.ret (.bool true)) ∧ OldK s1.heap s'.heap ∧ s'.os = s1.os ∧ AllBare s'.gens) s1 := by
  refine NoI.keep (fun _ wNoI => ?_) ?_
  simp only [↓ NoI.wrOf wNoI (by
  clear wNoI
  -- the abstract heap: the script alone, unless it is one of the module's own
  obtain ⟨H, hO, hS, ok, only, notK⟩ : ∃ H : Hp, Only H ∧ SqL K H a (ns.map V.int) ∧ HOk P w H s1.heap ∧
      (∀ b, H b ≠ none → b = a) ∧ (H a ≠ none → K.lookup a = none) := by
    have rv := vals_ints hInts
    have len := hInts.length
    cases q : K.lookup a with
    | some o =>
      have e := kIn a o q
      rw [ha] at e
      cases e
      refine ⟨fun _ => none, fun _ => .inl rfl, .inr ⟨_, vs.toArray, _, q, rfl, rfl, rfl, ?_, by simpa using rv⟩,
        fun b u z => (by cases (show (none : Option HO) = some u from z)), fun b z => absurd rfl z, fun z => absurd rfl z⟩
      rw [List.size_toArray, len]
      exact small
    | none =>
      let frozen : HO := .frz { cls := .type "list", data := .seq vs.toArray } (.lst (ns.map V.int))
      refine ⟨fun b => if b = a then some frozen else none, fun b => ?_, .inl (.inr ⟨_, if_pos rfl⟩), fun b u z => ?_,
        fun b z => ?_, fun _ => rfl⟩
      · by_cases e : b = a
        · exact .inr ⟨_, _, if_pos e⟩
        · exact .inl (if_neg e)
      · obtain ⟨e, e2⟩ := only_one z
        subst e e2
        exact ⟨ha, by rw [List.length_map]; exact small, vs, _, rv, ha⟩
      · by_cases e : b = a
        · exact e
        · exact absurd (if_neg e) z
  -- the base: all but what is tracked
  have here : ∀ {b : Addr} {o : Obj}, s1.heap.get? b = some o → H b = none → (hidT s1.heap H).get? b = some o :=
    fun e n => hidT_get e n
  have dicts : ∀ {b : Addr} {m : Str → Option Value}, s1.heap.Ns b m → (hidT s1.heap H).Ns b m := by
    rintro b m ⟨o, es, ep, e, d, r⟩
    refine ⟨o, es, ep, here e ?_, d, r⟩
    cases q : H b with
    | none => rfl
    | some u =>
      have e2 : b = a := only b (by rw [q]; intro z; cases z)
      rw [e2, ha] at e
      cases e
      cases (show Data.seq vs.toArray _ = Data.dict es ep from d)
  have kBase : K.In (hidT s1.heap H) := by
    intro b o e
    refine here (kIn b o e) ?_
    cases q : H b with
    | none => rfl
    | some u =>
      have e2 : b = a := only b (by rw [q]; intro z; cases z)
      subst e2
      rw [notK (by rw [q]; intro z; cases z)] at e
      cases e
  obtain ⟨ml, l1, l2⟩ := noLim
  have env : Env0 P w K mg (hidT s1.heap H) callerA [] s1 H :=
    { frames := rfl, mod := ⟨kBase, dicts hmg, ⟨mb, dicts hmb, hbb⟩, ⟨ml, dicts l1, l2⟩⟩, bs := fun b o e => of_hidT e,
      bsz := Nat.le_of_eq (hidT_size _ _), funs := trivial, frf := fun b z => (by cases z), hok := ok, bare := .of_eq hgen }
  have run := (F _ kBase (dicts hmg)).run callerA [] s1 H ⟨[.ref a], []⟩ [.ref a] [.ref a] _ _ rfl hr env
    (bind s1 (.ref a)) (.cons rfl .nil) (hsp H hO hS)
  refine codeAny_mono run ?_
  rintro (e | fl) s' h
  · exact h.elim
  cases fl with
  | next => exact h.elim
  | brk => exact h.elim
  | cont => exact h.elim
  | ret u =>
    obtain ⟨v, H', os, bare, un, ok', r', rfl⟩ := h
    obtain rfl : u = Value.bool true := r'
    refine ⟨rfl, OldK.of_keep ?_, os, bare⟩
    intro b o e
    cases q : H b with
    | none => exact un.keep b o e q (fun z => by cases z) (fun z => by cases z)
    | some u =>
      rcases hO b with z | ⟨ob, xs, z⟩
      · rw [q] at z; cases z
      · have z2 := un.frzs b ob _ z
        have e1 := (ok b _ z).1
        rw [e] at e1
        cases e1
        exact (ok' b _ z2).1
  )]
  intro _ hNoI
  simpa using (fun (_ : NoI.Sg) => hNoI) [5]
theorem walk_ofG {l : PySem.W.OpenLaw} {n k : Nat} {q : Program} {loose : List Str}
    {XP : (Str → Option Value) → Heap → Prop} {YP : World → Heap → Prop} {d : DefRec} {K : Params → PySem.W.Frag}
    {sp : World → Sp} {x : Str} (hn : l.most = some n) (hn2 : n ≤ sizeLine) (hdf : d.params.defaults = [])
    (hr : Room k callerA) (hY : ∀ (w : World) (h : Heap), YP w h → (K w.params).In h)
    (F : ∀ (w : World) (mg : Str → Option Value) (fa : Addr) (h : Heap), (K w.params).In h →
      h.Ns mainGlobals mg → mg d.name = some (.ref fa) →
      ∃ fd : FuncData, (∀ (s : Shared) (u : Value), BindsTo s fd ⟨[u], []⟩ [(x, u)]) ∧
        ∀ base : Heap, (K w.params).In base → base.Ns mainGlobals mg → FnG l.prog w (K w.params) mg base CX0 k fa fd [x] (sp w))
    (hsp : ∀ (w : World) (H : Hp) (a : Addr) (ns : List Int), ns.length ≤ n → Only H → SqL (K w.params) H a (ns.map V.int) →
      sp w [.ref a] H (fun v _ => v = .bl true) fun _ _ _ => False) :
    PySem.W.WalkO q loose XP YP l.row.toRowW d [] (fun f vs => PySem.call f vs) := by
  refine NoI.keep (fun _ wNoI => ?_) ?_
  simp only [↓ NoI.wrOf wNoI (by
  clear wNoI
  refine Att.attach_call hn hdf ?_
  intro w s0 s1 mg mb fa o pm cd doc a vs ns G Y ho hd hcd hmg hobj hInts few hgen
  obtain ⟨fd, hb, hF⟩ := F w mg fa _ (hY w _ Y) G.T.g hmg
  exact law_callG (hY w _ Y) G.T.g G.T.b G.T.builtins G.T.nolimit hgen hobj hInts (Nat.le_trans few hn2) hr hF hb
    fun H hO hS => hsp w H a ns few hO hS
  )]
  intro _ hNoI
  simpa using (fun (_ : NoI.Sg) => hNoI) [5]
end SH

namespace SH
open PySem PySem.Spec PyProof.Rows L2
variable [WW]

/-! ### a def's promise in data -/
abbrev Ct := List SV → Mem → (SV → Mem → Prop) → Prop
def spP (K : PySem.W.Frag) (C : Ct) : Sp := fun vs H Q E =>
  ∃ (Zc : Addr → Prop) (ad : List Addr) (svs : List SV) (m : Mem) (Ψ : SV → Mem → Prop), C svs m Ψ ∧
    VRs K Zc ad m H vs svs ∧ MR K Zc ad H m ∧
    ∀ v ad' H' rv m', Ψ rv m' → MR K Zc ad' H' m' → Frm Zc m.length ad m H ad' m' H' → VR K Zc ad' m' H' v rv → Q v H'
def retE (Ψ : SV → Mem → Prop) : DE := { nx := fun s => Ψ (.dat .none) s.mem, rt := Ψ }
section
variable {P : Program} {w : World} {K : PySem.W.Frag} {mg : Str → Option Value} {base : Heap} {f : Addr} {fd : FuncData}
theorem sr_start {Zc : Addr → Prop} {ad : List Addr} {m : Mem} {H : Hp} {vs : List V} {svs : List SV} {N : List Str} (h : VRs K Zc ad m H vs svs) (M : MR K Zc ad H m) :
    SR K Zc ad H (start N vs) ⟨svs ++ List.replicate (N.length - svs.length) .un, m⟩ := by
  refine NoI.keep (fun _ wNoI => ?_) ?_
  simp only [↓ NoI.wrOf wNoI (by
  clear wNoI
  have hl := h.len
  refine ⟨by simp [L2.start, hl], fun i sv e => ?_, M⟩
  have e : (svs ++ List.replicate (N.length - svs.length) SV.un)[i]? = some sv := e
  unfold L2.start
  by_cases hi : i < svs.length
  · rw [List.getElem?_append_left hi] at e
    obtain ⟨v, e1, r⟩ := h.get e
    exact ⟨some v, by rw [List.getElem?_append_left (by simpa [hl] using hi), List.getElem?_map, e1]; rfl, .inr ⟨v, rfl, r⟩⟩
  · rw [List.getElem?_append_right (by omega), List.getElem?_replicate] at e
    split at e
    · cases e
      refine ⟨none, ?_, .inl rfl⟩
      rw [List.getElem?_append_right (by simp [hl]; omega), List.getElem?_replicate, List.length_map, hl, if_pos ‹_›]
    · cases e
  )]
  intro _ hNoI
  simpa using (fun (_ : NoI.Sg) => hNoI) [5]
theorem okG {x qual : Str} {st : Stmt} {N ps : List Str} {k : Nat} {C : Ct} (F : Fun K x qual st f fd) (S : FnScope N ps (defScope st))
    (len : ∀ svs m Ψ, C svs m Ψ → svs.length = ps.length)
    (body : ∀ (cdv : Value) (A : Around) (outer : List Env) (s : Shared) (H : Hp) (E : XK), A.guards = some [] → Room k (A.deeper (envOfC qual (defScope st) s.heap.objs.size f cdv)) →
      ∃ t, PSs (cxOf CX0 P w K mg base N qual (defScope st) f cdv A outer s H E).nox (defBody st) t ∧
        ∀ Zc svs m Ψ, C svs m Ψ → ExS K Zc m.length t ⟨svs ++ List.replicate (N.length - svs.length) .un, m⟩ (retE Ψ)) :
    FnG P w K mg base CX0 (k + 1) f fd ps (spP K C) := by
  refine NoI.keep (fun _ wNoI => ?_) ?_
  simp only [↓ NoI.wrOf wNoI (by
  clear wNoI
  refine fnG_of F S (fun vs H Q E h => ?_) fun cdv A outer s H vs Q E hG hR h => ?_
  · obtain ⟨Zc, ad, svs, m, Ψ, c, r, _⟩ := h
    rw [r.len, len _ _ _ c]
  · obtain ⟨t, ht, hb⟩ := body cdv A outer s H E hG hR
    obtain ⟨Zc, ad, svs, m, Ψ, c, r, M, q⟩ := h
    refine ⟨t, ht.nox, hb Zc svs m Ψ c ad H _ _ (sr_start r M) (Nat.le_refl _) ?_ ?_ ?_ ?_⟩
    · intro σ' ad' H' s' h1 I F1
      exact q _ ad' H' (.dat .none) s'.mem h1 I.mr F1 .non
    · intro v ad' H' rv m' h1 I F1 r1
      exact q v ad' H' rv m' h1 I F1 r1
    · intro _ _ _ _ h1; exact h1.elim
    · intro _ _ _ _ h1; exact h1.elim
  )]
  intro _ hNoI
  simpa using (fun (_ : NoI.Sg) => hNoI) [5]
end

section
variable {K : PySem.W.Frag} {Zc : Addr → Prop} {ad ad' ad2 : List Addr} {H H' H2 : Hp} {m m' m2 : Mem} {σ σ' : L2.St} {s s' s1 : S} {n : Nat} {Q : VK} {Φ : SV → S → Prop}
theorem Fz_congr {Z Z' : Addr → Prop} (h : ∀ a, Z a ↔ Z' a) : Fz Z H = Fz Z' H := by
  funext a
  unfold Fz
  by_cases q : Z a
  · rw [if_pos q, if_pos ((h a).mp q)]
  · rw [if_neg q, if_neg fun z => q ((h a).mpr z)]
theorem not_live_nil {a : Addr} : ¬ Live ad [] a := by
  rintro ⟨i, ds, h, _⟩
  simp at h
/-- no cell among them -/
def noOwn : List SV → Bool
  | [] => true
  | .dat _ :: r => noOwn r
  | .ro _ :: r => noOwn r
  | .rng _ _ :: r => noOwn r
  | _ :: _ => false
theorem vrs_noOwn {Zc' : Addr → Prop} (f : FZ Zc' ad' m' H = FZ Zc ad m H) : ∀ {vs : List V} {svs : List SV}, noOwn svs = true → VRs K Zc ad m H vs svs → VRs K Zc' ad' m' H vs svs
  | [], [], _, _ => trivial
  | v :: vs, .dat d :: svs, e, h => ⟨(by have := h.1; unfold VR at this ⊢; rw [f]; exact this), vrs_noOwn f e h.2⟩
  | v :: vs, .ro d :: svs, e, h => ⟨(by have := h.1; unfold VR at this ⊢; rw [f]; exact this), vrs_noOwn f e h.2⟩
  | v :: vs, .rng _ _ :: svs, e, h => ⟨(by have := h.1; unfold VR at this ⊢; rw [f]; exact this), vrs_noOwn f e h.2⟩
  | _, .own _ :: _, e, _ => by cases e
  | _, .un :: _, e, _ => by cases e
  | _, .exn _ _ _ :: _, e, _ => by cases e
  | [], .dat _ :: svs, _, h => h.elim
  | [], .ro _ :: svs, _, h => h.elim
  | [], .rng _ _ :: svs, _, h => h.elim
  | _ :: _, [], _, h => h.elim
/-- what comes back from a def that was handed no cell -/
def backP (s : S) (Φ : SV → S → Prop) (rv : SV) (m' : Mem) : Prop :=
  match rv with
  | .dat d => Φ (.dat d) s
  | .own i => match m'[i]? with
    | some (some ds) => Φ (.own s.mem.length) ⟨s.sl, s.mem ++ [some ds]⟩
    | _ => False
  | .ro _ => False
  | .rng _ _ => False
  | .exn _ _ _ => False
  | .un => False
/-- what is there stays; a dict that is none of Z's may be locked meanwhile -/
def SmZ (Z : Addr → Prop) (H H' : Hp) : Prop := ∀ a o, H a = some o → H' a = some o ∨ (¬ Z a ∧ Dc o = true ∧ ∃ od, H' a = some (.frz od o))
theorem SmZ.at {Z : Addr → Prop} (e : SmZ Z H H') {a : Addr} {o : HO} (h : H a = some o) (z : Z a) : H' a = some o := (e a o h).resolve_right fun q => q.1 z
theorem SmZ.ex {Z : Addr → Prop} (e : SmZ Z H H') {a : Addr} {o : HO} (h : H a = some o) : H' a ≠ none := by
  rcases e a o h with q | ⟨_, _, od, q⟩ <;> (rw [q]; intro z; cases z)
theorem SmZ.fz (e : SmZ (ZZ Zc ad m) H H') : Same (FZ Zc ad m H) (FZ Zc ad m H') := fun a o q => by
  obtain ⟨h1, h2⟩ := Fz_inv q
  rcases e a o h2 with q | ⟨_, q, od, r⟩
  · exact .inl (Fz_of h1 q)
  · exact .inr ⟨q, od, Fz_of h1 r⟩
theorem SmZ.of {Z : Addr → Prop} (e : ∀ b o, H b = some o → H' b = some o) : SmZ Z H H' := fun b o h => .inl (e b o h)
theorem MR.same (h : MR K Zc ad H m) (e : SmZ (ZZ Zc ad m) H H') : MR K Zc ad H' m := by
  refine NoI.keep (fun _ wNoI => ?_) ?_
  simp only [↓ NoI.wrOf wNoI (by
  clear wNoI
  have F : Same (FZ Zc ad m H) (FZ Zc ad m H') := e.fz
  refine ⟨fun i ds q => ?_, h.inj, h.zd, fun a q z => ?_, h.adl⟩
  · obtain ⟨a, vs, e1, e2, e3⟩ := h.cell i ds q
    exact ⟨a, vs, e1, e.at e2 (.inr ⟨i, ds, q, e1⟩), e3.mono F⟩
  · cases y : H a with
    | none => exact h.zt a q y
    | some o => exact e.ex y z
  )]
  intro _ hNoI
  simpa using (fun (_ : NoI.Sg) => hNoI) [5]
theorem Frm.ofSame (e : SmZ (ZZ Zc ad m) H H') : Frm Zc m.length ad m H ad m H' := ⟨fun a o h _ => (e _ _ h).imp id fun q => ⟨fun z => q.1 (.inl z), q.2⟩, fun _ h => .inl h, fun _ _ => rfl, Nat.le_refl _⟩
theorem SR.same (h : SR K Zc ad H σ s) (e : SmZ (ZZ Zc ad s.mem) H H') : SR K Zc ad H' σ s :=
  ⟨h.len, fun i sv q => by
    obtain ⟨o, e1, e2⟩ := h.slot i sv q
    exact ⟨o, e1, e2.frm (Frm.ofSame e)⟩, h.mr.same e⟩
/-- a list that was made meanwhile is taken over as a cell -/
theorem MR.adopt (h : MR K Zc ad H m) (e : SmZ (ZZ Zc ad m) H H') {p : Addr} {u : HO} {ds : D} (hp : H p = none) (hp' : H' p = some u) (hv : Cell K (FZ Zc (adN ad m p) (m ++ [some ds]) H') p u ds) :
    MR K Zc (adN ad m p) H' (m ++ [some ds]) ∧ Frm Zc m.length ad m H (adN ad m p) (m ++ [some ds]) H' := by
  refine NoI.keep (fun _ wNoI => ?_) ?_
  simp only [↓ NoI.wrOf wNoI (by
  clear wNoI
  have F : Frm Zc m.length ad m H (adN ad m p) (m ++ [some ds]) H' := by
    refine ⟨fun a o q _ => (e _ _ q).imp id fun q => ⟨fun z => q.1 (.inl z), q.2⟩, fun a q => ?_, fun i hi => adN_lt h.adl hi, by simp⟩
    rcases (live_adN h.adl).mp q with q | rfl
    · exact .inl q
    · exact .inr hp
  have N := h.newO hp (u := .lst []) (ds := .list []) (.lst .nil)
  refine ⟨⟨fun i es q => ?_, fun i j a es fs q1 q2 a1 a2 => ?_, fun a q r => ?_, fun a q z => ?_, by simpa using N.adl⟩, F⟩
  · by_cases hi : i < m.length
    · rw [List.getElem?_append_left hi] at q
      obtain ⟨a, us, e1, e2, e3⟩ := h.cell i es q
      exact ⟨a, us, by rw [adN_lt h.adl hi]; exact e1, e.at e2 (.inr ⟨i, es, q, e1⟩), e3.mono F.same⟩
    · have hj : i = m.length := by
        have := (List.getElem?_eq_some_iff.mp q).1
        rw [List.length_append] at this
        simp at this
        omega
      subst hj
      simp at q
      subst q
      exact ⟨p, u, adN_at h.adl, hp', hv⟩
  · have mk : ∀ {i : Nat} {gs : D}, (m ++ [some ds])[i]? = some (some gs) → ∃ hs, (m ++ [some (.list [])])[i]? = some (some hs) := by
      intro i gs q
      by_cases hi : i < m.length
      · rw [List.getElem?_append_left hi] at q ⊢; exact ⟨gs, q⟩
      · have hj : i = m.length := by
          have := (List.getElem?_eq_some_iff.mp q).1
          rw [List.length_append] at this
          simp at this
          omega
        subst hj
        exact ⟨.list [], by simp⟩
    obtain ⟨x1, y1⟩ := mk q1
    obtain ⟨x2, y2⟩ := mk q2
    exact N.inj i j a x1 x2 y1 y2 a1 a2
  · rcases (live_adN h.adl).mp r with r | rfl
    · exact h.zd a q r
    · exact h.zt _ q hp
  · cases y : H a with
    | none => exact h.zt a q y
    | some o => exact e.ex y z
  )]
  intro _ hNoI
  simpa using (fun (_ : NoI.Sg) => hNoI) [5]
theorem ev_call0 {C : Ct} {E : XK} {ta : TA} (h : ArS K Zc ta s fun svs s1 => noOwn svs = true ∧ C svs [] (backP s1 Φ)) : EvS K Zc (tCall (spP K C) [] E ta) s Φ := by
  refine NoI.keep (fun _ wNoI => ?_) ?_
  simp only [↓ NoI.wrOf wNoI (by
  clear wNoI
  intro ad H σ Q I p
  refine h ad H σ _ I fun vs ad1 H1 svs s1 h1 I1 F1 r1 => ?_
  obtain ⟨hd, c⟩ := h1
  have zz : ∀ a, ZZ (ZZ Zc ad1 s1.mem) [] [] a ↔ ZZ Zc ad1 s1.mem a := fun a => ⟨fun q => q.resolve_right not_live_nil, .inl⟩
  have fe : FZ (ZZ Zc ad1 s1.mem) [] [] H1 = FZ Zc ad1 s1.mem H1 := Fz_congr zz
  refine ⟨ZZ Zc ad1 s1.mem, [], svs, [], backP s1 Φ, c, by rw [List.append_nil]; exact vrs_noOwn fe hd r1, ⟨fun i ds q => by simp at q, fun i j a ds es q => by simp at q, fun a _ => not_live_nil, fun a q => ?_, Nat.le_refl _⟩, ?_⟩
  · rcases q with q | ⟨i, es, q1, q2⟩
    · exact I1.mr.zt a q
    · obtain ⟨b, us, e1, e2, _⟩ := I1.mr.cell i es q1
      rw [q2] at e1; cases e1
      rw [e2]; intro z; cases z
  · intro v ad' H' rv m' hΨ M' F' r'
    have sm : SmZ (ZZ Zc ad1 s1.mem) H1 H' := fun a o q => F'.keep a o q not_live_nil
    have p1 := p.step F1
    cases rv with
    | dat d =>
      refine p1 v ad1 H' (.dat d) s1 hΨ (I1.same sm) (Frm.ofSame sm) ?_
      refine dp_mono (.of fun a o q => ?_) v d r'
      obtain ⟨q1, q2⟩ := Fz_inv q
      exact Fz_of (fun z => q1 (.inl z)) q2
    | own i =>
      simp only [backP] at hΨ
      split at hΨ
      · rename_i es e
        obtain ⟨a, us, rfl, ha, hH, hv⟩ := rd_obj M' r' e
        have hp : H1 a = none := by
          rcases F'.new a ⟨i, es, e, ha⟩ with z | z
          · exact absurd z not_live_nil
          · exact z
        have hv' : Cell K (FZ Zc (adN ad1 s1.mem a) (s1.mem ++ [some es]) H') a us es := hv.mono (.of fun b o q => by
          obtain ⟨q1, q2⟩ := Fz_inv q
          refine Fz_of (fun z => ?_) q2
          rcases z with z | z
          · exact q1 (.inl (.inl z))
          · rcases (live_adN I1.mr.adl).mp z with z | rfl
            · exact q1 (.inl (.inr z))
            · exact q1 (.inr ⟨i, es, e, ha⟩))
        obtain ⟨N, G⟩ := I1.mr.adopt sm hp hH hv'
        refine p1 _ _ H' _ _ hΨ ⟨I1.len, fun j sv q => ?_, N⟩ G ⟨by simp, a, adN_at I1.mr.adl, rfl⟩
        obtain ⟨o, e1, e2⟩ := I1.slot j sv q
        exact ⟨o, e1, e2.frm G⟩
      · exact hΨ.elim
    | ro _ => exact hΨ.elim
    | rng _ _ => exact hΨ.elim
    | exn _ _ _ => exact hΨ.elim
    | un => exact hΨ.elim
  )]
  intro _ hNoI
  simpa using (fun (_ : NoI.Sg) => hNoI) [5]
/-- a def that is handed the cell j ahead of values -/
def backB (s : S) (j : Nat) (Φ : SV → S → Prop) (rv : SV) (m' : Mem) : Prop :=
  ∃ d bs, rv = .dat d ∧ m'[0]? = some (some bs) ∧ Φ (.dat d) ⟨s.sl, s.mem.set j (some bs)⟩
theorem ev_callB {C : Ct} {E : XK} {ta : TA} (h : ArS K Zc ta s fun svs s1 => ∃ j ws bs, svs = .own j :: ws ∧ noOwn ws = true ∧ s1.mem[j]? = some (some bs) ∧ C (.own 0 :: ws) [some bs] (backB s1 j Φ)) :
    EvS K Zc (tCall (spP K C) [] E ta) s Φ := by
  refine NoI.keep (fun _ wNoI => ?_) ?_
  simp only [↓ NoI.wrOf wNoI (by
  clear wNoI
  intro ad H σ Q I p
  refine h ad H σ _ I fun vs ad1 H1 svs s1 h1 I1 F1 r1 => ?_
  obtain ⟨j, ws, bs, rfl, hd, hj, c⟩ := h1
  have p1 := p.step F1
  obtain ⟨v0, vs, rfl⟩ : ∃ v0 r, vs = v0 :: r := by
    cases vs with
    | nil => exact r1.elim
    | cons a b => exact ⟨a, b, rfl⟩
  obtain ⟨r0, r2⟩ := r1
  obtain ⟨b, us, rfl, hb, hH, hv⟩ := rd_obj I1.mr r0 hj
  have zz : ∀ a, ZZ (ZZ Zc ad1 (s1.mem.set j none)) [b] [some bs] a ↔ ZZ Zc ad1 s1.mem a := fun a => by
    constructor
    · rintro ((q | q) | ⟨i, es, q1, q2⟩)
      · exact .inl q
      · exact .inr (live_none q)
      · have : i = 0 := by
          have := (List.getElem?_eq_some_iff.mp q1).1
          simp at this
          exact this
        subst this
        simp at q2
        subst q2
        exact .inr ⟨j, bs, hj, hb⟩
    · rintro (q | ⟨i, es, q1, q2⟩)
      · exact .inl (.inl q)
      · by_cases e : i = j
        · subst e
          rw [hb] at q2; cases q2
          exact .inr ⟨0, bs, rfl, rfl⟩
        · exact .inl (.inr ⟨i, es, get_set_none.mpr ⟨e, q1⟩, q2⟩)
  have fe : FZ (ZZ Zc ad1 (s1.mem.set j none)) [b] [some bs] H1 = FZ Zc ad1 s1.mem H1 := Fz_congr zz
  have nb : ¬ ZZ Zc ad1 (s1.mem.set j none) b := by
    rintro (q | ⟨i, es, q1, q2⟩)
    · exact I1.mr.zd b q ⟨j, bs, hj, hb⟩
    · obtain ⟨t1, t2⟩ := get_set_none.mp q1
      exact t1 (I1.mr.inj i j b es bs t2 hj q2 hb)
  have live1 : ∀ {a : Addr}, Live [b] [some bs] a → a = b := by
    rintro a ⟨i, es, q1, q2⟩
    have : i = 0 := by
      have := (List.getElem?_eq_some_iff.mp q1).1
      simp at this
      exact this
    subst this
    simp at q2
    exact q2.symm
  refine ⟨ZZ Zc ad1 (s1.mem.set j none), [b], .own 0 :: ws, [some bs], backB s1 j Φ, c, ?_, ⟨fun i es q => ?_, fun i k a es fs q1 q2 _ _ => ?_, fun a q r => nb (live1 r ▸ q), fun a q => ?_, Nat.le_refl _⟩, ?_⟩
  · rw [List.append_nil]
    exact ⟨⟨by simp, b, rfl, rfl⟩, vrs_noOwn fe hd r2⟩
  · have : i = 0 := by
      have := (List.getElem?_eq_some_iff.mp q).1
      simp at this
      exact this
    subst this
    simp at q
    subst q
    exact ⟨b, us, rfl, hH, by rw [fe]; exact hv⟩
  · have h1 := (List.getElem?_eq_some_iff.mp q1).1
    have h2 := (List.getElem?_eq_some_iff.mp q2).1
    simp at h1 h2
    omega
  · rcases q with q | q
    · exact I1.mr.zt a q
    · obtain ⟨i, es, q1, q2⟩ := live_none q
      obtain ⟨b, us, e1, e2, _⟩ := I1.mr.cell i es q1
      rw [q2] at e1; cases e1
      rw [e2]; intro z; cases z
  · intro v ad' H' rv m' hΨ M' F' r'
    obtain ⟨d, cs, rfl, hm, hΦ⟩ := hΨ
    have hb' : ad'[0]? = some b := by rw [F'.pre 0 (by simp)]; rfl
    obtain ⟨b2, us', e1, hH', hv'⟩ := M'.cell 0 cs hm
    rw [hb'] at e1; cases e1
    have keep : ∀ a o, H1 a = some o → a ≠ b → H' a = some o ∨ (¬ ZZ Zc ad1 (s1.mem.set j none) a ∧ Dc o = true ∧ ∃ od, H' a = some (.frz od o)) := fun a o q z => F'.keep a o q fun l => z (live1 l)
    have fl : Same (FZ (ZZ Zc ad1 (s1.mem.set j none)) ad' m' H') (FZ Zc ad1 (s1.mem.set j (some cs)) H') := .of fun a o q => by
      obtain ⟨q1, q2⟩ := Fz_inv q
      refine Fz_of (fun z => ?_) q2
      rcases z with z | z
      · exact q1 (.inl (.inl z))
      · obtain ⟨i, es, t1, t2⟩ := (live_set hj).mp z
        by_cases e : i = j
        · subst e
          rw [hb] at t2; cases t2
          exact q1 (.inr ⟨0, cs, hm, hb'⟩)
        · exact q1 (.inl (.inr ⟨i, es, get_set_none.mpr ⟨e, t1⟩, t2⟩))
    have G : Frm Zc s1.mem.length ad1 s1.mem H1 ad1 (s1.mem.set j (some cs)) H' :=
      ⟨fun a o q l => (keep a o q fun z => l (z ▸ ⟨j, bs, hj, hb⟩)).imp id (fun q => ⟨fun z => q.1 (.inl z), q.2⟩), fun a q => .inl ((live_set hj).mp q), fun _ _ => rfl, by simp⟩
    refine p1 v ad1 H' (.dat d) _ hΦ ⟨I1.len, fun k sv q => ?_, ⟨fun i es q => ?_, fun i k a es fs q1 q2 a1 a2 => ?_, fun a q r => I1.mr.zd a q ((live_set hj).mp r), fun a q z => ?_, by rw [List.length_set]; exact I1.mr.adl⟩⟩ G (dp_mono fl v d r')
    · obtain ⟨o, e1, e2⟩ := I1.slot k sv q
      exact ⟨o, e1, e2.frm G⟩
    · by_cases e : j = i
      · subst e
        rw [List.getElem?_set_self (List.getElem?_eq_some_iff.mp hj).1] at q
        simp at q
        subst q
        exact ⟨b, us', hb, hH', hv'.mono fl⟩
      · rw [List.getElem?_set_ne e] at q
        have q' := q
        obtain ⟨a, ys, e1, e2, e3⟩ := I1.mr.cell i es q
        have hab : a ≠ b := fun z => e (I1.mr.inj j i b bs es hj q hb (z ▸ e1))
        exact ⟨a, ys, e1, (keep a _ e2 hab).resolve_right fun q => q.1 (.inr ⟨i, es, get_set_none.mpr ⟨fun z => e z.symm, q'⟩, e1⟩), e3.mono G.same⟩
    · have un : ∀ {i : Nat} {gs : D}, (s1.mem.set j (some cs))[i]? = some (some gs) → ∃ hs, s1.mem[i]? = some (some hs) := fun {i gs} q => by
        by_cases z : j = i
        · subst z; exact ⟨bs, hj⟩
        · rw [List.getElem?_set_ne z] at q; exact ⟨gs, q⟩
      obtain ⟨x1, y1⟩ := un q1
      obtain ⟨x2, y2⟩ := un q2
      exact I1.mr.inj i k a x1 x2 y1 y2 a1 a2
    · cases y : H1 a with
      | none => exact I1.mr.zt a q y
      | some o =>
        by_cases hab : a = b
        · subst hab; exact I1.mr.zd a q ⟨j, bs, hj, hb⟩
        · rcases keep a o y hab with r | ⟨_, _, od, r⟩ <;> (rw [r] at z; cases z)
  )]
  intro _ hNoI
  simpa using (fun (_ : NoI.Sg) => hNoI) [5]
end
end SH

namespace SH
open PySem PySem.Spec PyProof.Rows L2
variable [WW]

/-! ### what is walked -/
/-- a walk gives these items, whatever is done meanwhile -/
def JOk (K : PySem.W.Frag) (Zc : Addr → Prop) (J : It) (items : List D) (F : Hp) : Prop :=
  ∀ (i : Nat) (ad : List Addr) (H : Hp) (m : Mem), Same F (FZ Zc ad m H) → MR K Zc ad H m →
    (i < items.length → J.go i H ∧ ∀ x H', J.yld i H x H' → (H' = H ∨ ∃ p o, H p = none ∧ H' = upd H p o) ∧ ∃ d, items[i]? = some d ∧ DV K (FZ Zc ad m H') x d) ∧
    (items.length ≤ i → J.stop i H)
def IterS (K : PySem.W.Frag) (Zc : Addr → Prop) (wi : TI) (s : S) (Φ : List D → S → Prop) : Prop :=
  ∀ ad H σ (R : It → Hp → Prop), SR K Zc ad H σ s →
    (∀ J ad' H' items s', Φ items s' → SR K Zc ad' H' σ s' → Frm Zc s.mem.length ad s.mem H ad' s'.mem H' → JOk K Zc J items (FZ Zc ad' s'.mem H') → R J H') → wi σ H R
section
variable {K : PySem.W.Frag} {Zc : Addr → Prop} {ad ad' ad2 : List Addr} {H H' H2 : Hp} {m m' m2 : Mem} {σ σ' : L2.St} {s s' s1 : S} {n : Nat} {Q : VK} {Φ : SV → S → Prop} {De : DE}
theorem lst_of {v : V} {ds : List D} (h : DV K H v (.list ds)) : ∃ a vs, v = .ref a ∧ H a = some (.lst vs) ∧ DVs K H vs ds := by
  cases h with
  | lst h1 h2 => exact ⟨_, _, rfl, h1, h2⟩
theorem tup_of {v : V} {ds : List D} (h : DV K H v (.tuple ds)) : ∃ a vs, v = .ref a ∧ SqT K H a vs ∧ DVs K H vs ds := by
  cases h with
  | tup h1 h2 => exact ⟨_, _, rfl, h1.sq, h2⟩
theorem jok_list {a : Addr} {vs : List V} {ds : List D} {F : Hp} (h : F a = some (.lst vs)) (hv : DVs K F vs ds) : JOk K Zc (Itl K a) ds F := by
  refine NoI.keep (fun _ wNoI => ?_) ?_
  simp only [↓ NoI.wrOf wNoI (by
  clear wNoI
  intro i ad H m e M
  have hH : SqL K H a vs := SqL.of (Fz_at (e.nd h rfl))
  have hv' := dpAll_mono e _ _ hv
  refine ⟨fun hi => ⟨⟨vs, vs[i]'(by rw [dpAll_len hv]; exact hi), hH, List.getElem?_eq_getElem _⟩, fun x H' y => ?_⟩, fun hi => ⟨vs, hH, by rw [dpAll_len hv]; exact hi⟩⟩
  obtain ⟨rfl, y⟩ := y
  have := y vs hH
  exact ⟨.inl rfl, dpAll_get' hv' this⟩
  )]
  intro _ hNoI
  simpa using (fun (_ : NoI.Sg) => hNoI) [5]
theorem jok_tup {a : Addr} {vs : List V} {ds : List D} {F : Hp} (h : SqT K F a vs) (hv : DVs K F vs ds) : JOk K Zc (Itt K a) ds F := by
  refine NoI.keep (fun _ wNoI => ?_) ?_
  simp only [↓ NoI.wrOf wNoI (by
  clear wNoI
  intro i ad H m e M
  have hH : SqT K H a vs := sqT_same Fz_le (sqT_same e h)
  have hv' := dpAll_mono e _ _ hv
  refine ⟨fun hi => ⟨⟨vs, vs[i]'(by rw [dpAll_len hv]; exact hi), hH, List.getElem?_eq_getElem _⟩, fun x H' y => ?_⟩, fun hi => ⟨vs, hH, by rw [dpAll_len hv]; exact hi⟩⟩
  obtain ⟨rfl, y⟩ := y
  have := y vs hH
  exact ⟨.inl rfl, dpAll_get' hv' this⟩
  )]
  intro _ hNoI
  simpa using (fun (_ : NoI.Sg) => hNoI) [5]
def rangeD (lo : Int) (n : Nat) : List D := (List.range n).map fun (i : Nat) => .int (lo + (i : Int))
theorem jok_range {lo : Int} {n : Nat} {F : Hp} : JOk K Zc (Itr lo n) (rangeD lo n) F := by
  refine NoI.keep (fun _ wNoI => ?_) ?_
  simp only [↓ NoI.wrOf wNoI (by
  clear wNoI
  intro i ad H m e M
  refine ⟨fun hi => ⟨show i < n by simpa [rangeD] using hi, fun x H' y => ?_⟩, fun hi => show n ≤ i by simpa [rangeD] using hi⟩
  obtain ⟨rfl, rfl⟩ := y
  have hi : i < n := by simpa [rangeD] using hi
  exact ⟨.inl rfl, _, by simp [rangeD, hi], .int _⟩
  )]
  intro _ hNoI
  simpa using (fun (_ : NoI.Sg) => hNoI) [5]
def strD (z : Str) : List D := z.cps.toList.map fun c => .str ⟨#[c]⟩
theorem jok_str {z : Str} {F : Hp} : JOk K Zc (Its z) (strD z) F := by
  refine NoI.keep (fun _ wNoI => ?_) ?_
  simp only [↓ NoI.wrOf wNoI (by
  clear wNoI
  intro i ad H m e M
  refine ⟨fun hi => ⟨show i < z.cps.size by simpa [strD] using hi, fun x H' y => ?_⟩, fun hi => show z.cps.size ≤ i by simpa [strD] using hi⟩
  obtain ⟨rfl, c, hc, rfl⟩ := y
  exact ⟨.inl rfl, .str ⟨#[c]⟩, by simp [strD, hc], .str _⟩
  )]
  intro _ hNoI
  simpa using (fun (_ : NoI.Sg) => hNoI) [5]
/-- a list or a tuple -/
def iSeq (K : PySem.W.Frag) (te : TE) : TI := fun σ H R => te σ H fun x H1 => (∃ a, x = .ref a ∧ (∃ xs, SqL K H1 a xs) ∧ R (Itl K a) H1) ∨ (∃ a, x = .ref a ∧ (∃ xs, SqT K H1 a xs) ∧ R (Itt K a) H1) ∨ ∃ z, x = .str z ∧ R (Its z) H1
theorem it_range1 {ta : TA} {Ψ : List D → S → Prop} (h : ArS K Zc ta s fun svs s' => ∃ j : Int, svs = [.dat (.int j)] ∧ -(2 ^ 62) ≤ j ∧ j < 2 ^ 62 ∧ Ψ (rangeD 0 j.toNat) s') : IterS K Zc (iRng1 ta) s Ψ := by
  refine NoI.keep (fun _ wNoI => ?_) ?_
  simp only [↓ NoI.wrOf wNoI (by
  clear wNoI
  intro ad H σ R I p
  refine h ad H σ _ I fun vs ad1 H1 svs s1 h1 I1 F1 r1 => ?_
  obtain ⟨j, rfl, b1, b2, k⟩ := h1
  obtain ⟨v, rfl, r⟩ := vrs1 r1
  cases r
  exact ⟨j, rfl, b1, b2, p _ ad1 H1 _ s1 k I1 F1 jok_range⟩
  )]
  intro _ hNoI
  simpa using (fun (_ : NoI.Sg) => hNoI) [5]
theorem it_range2 {ta : TA} {Ψ : List D → S → Prop} (h : ArS K Zc ta s fun svs s' => ∃ i j : Int, svs = [.dat (.int i), .dat (.int j)] ∧ (-(2 ^ 62) ≤ i ∧ i < 2 ^ 62 ∧ -(2 ^ 62) ≤ j ∧ j < 2 ^ 62) ∧ Ψ (rangeD i (j - i).toNat) s') : IterS K Zc (iRng2 ta) s Ψ := by
  refine NoI.keep (fun _ wNoI => ?_) ?_
  simp only [↓ NoI.wrOf wNoI (by
  clear wNoI
  intro ad H σ R I p
  refine h ad H σ _ I fun vs ad1 H1 svs s1 h1 I1 F1 r1 => ?_
  obtain ⟨i, j, rfl, b, k⟩ := h1
  obtain ⟨v, u, rfl, r, r'⟩ := vrs2 r1
  cases r
  cases r'
  exact ⟨i, j, rfl, b, p _ ad1 H1 _ s1 k I1 F1 jok_range⟩
  )]
  intro _ hNoI
  simpa using (fun (_ : NoI.Sg) => hNoI) [5]

/-! ### for -/
theorem FZ.upd_same (M : MR K Zc ad H m) {p : Addr} {o : HO} (hp : H p = none) : Same (FZ Zc ad m H) (FZ Zc ad m (upd H p o)) := (Frm.newT (ad := ad) (m := m) hp).same
/-- what is left to know behind a turn -/
def To (n : Nat) (I : S → Prop) (s : S) : Prop := ∃ s', Wk s s' ∧ n ≤ s'.mem.length ∧ I s'
theorem ex_for {wi : TI} {g : TG} {tb : TS} (hi : IterS K Zc wi s fun items s1 => ∃ I : Nat → S → Prop, To n (I 0) s1 ∧
      (∀ i d s, items[i]? = some d → I i s → n ≤ s.mem.length → GS K Zc g (.dat d) s fun s2 => ExS K Zc n tb s2 { nx := To n (I (i + 1)), ct := To n (I (i + 1)), bk := De.nx, rt := De.rt }) ∧
      (∀ s, I items.length s → n ≤ s.mem.length → De.nx s)) : ExS K Zc n (tFor wi g tb) s De := by
  refine NoI.keep (fun _ wNoI => ?_) ?_
  simp only [↓ NoI.wrOf wNoI (by
  clear wNoI
  intro ad H σ Dd I0 hn k1 k2 k3 k4
  refine hi ad H σ _ I0 fun J ad1 H1 items s1 h1 I1 F1 jok => ?_
  obtain ⟨Inv, h0, hs, hd⟩ := h1
  have G1 := F1.less hn
  have S1 : ∀ {ad2 : List Addr} {H2 : Hp} {s2 : S}, Frm Zc n ad1 s1.mem H1 ad2 s2.mem H2 → Same (FZ Zc ad1 s1.mem H1) (FZ Zc ad2 s2.mem H2) := fun F => F.same
  refine ⟨fun i k σ2 H2 => i + k = items.length ∧ ∃ ad2 s2, Inv i s2 ∧ n ≤ s2.mem.length ∧ SR K Zc ad2 H2 σ2 s2 ∧ Frm Zc n ad1 s1.mem H1 ad2 s2.mem H2, ⟨items.length, by simp, ?_⟩, ?_⟩
  · obtain ⟨s2, w, hl, q⟩ := h0
    exact ⟨ad1, s2, q, hl, I1.wk w, w.frm hl⟩
  · rintro i k σ2 H2 ⟨hk, ad2, s2, q, hl, I2, F2⟩
    obtain ⟨jg, js⟩ := jok i ad2 H2 s2.mem (S1 F2) I2.mr
    have F02 := G1.trans F2 (Nat.le_refl n)
    by_cases hlt : i < items.length
    · obtain ⟨go, yl⟩ := jg hlt
      refine .inr ⟨go, fun σ3 H3 => ∃ ad3 s3, Inv (i + 1) s3 ∧ n ≤ s3.mem.length ∧ SR K Zc ad3 H3 σ3 s3 ∧ Frm Zc n ad1 s1.mem H1 ad3 s3.mem H3, fun σ3 H3 q3 => ⟨k - 1, by omega, by omega, q3⟩, fun x H3 y => ?_⟩
      obtain ⟨hh, d, hd', r⟩ := yl x H3 y
      have I3 : SR K Zc ad2 H3 σ2 s2 := by
        rcases hh with rfl | ⟨p, o, hp, rfl⟩
        · exact I2
        · exact I2.newT hp
      have F3 : Frm Zc n ad1 s1.mem H1 ad2 s2.mem H3 := by
        rcases hh with rfl | ⟨p, o, hp, rfl⟩
        · exact F2
        · exact F2.trans (Frm.newT hp) F2.le
      refine hs i d s2 hd' q hl ad2 H3 σ2 x _ I3 r fun σ4 sl4 h4 I4 => ?_
      have F14 := G1.trans F3 (Nat.le_refl n)
      have nxt : ∀ σ' ad' H' s', To n (Inv (i + 1)) s' → SR K Zc ad' H' σ' s' → Frm Zc n ad2 s2.mem H3 ad' s'.mem H' →
          ∃ ad3 s3, Inv (i + 1) s3 ∧ n ≤ s3.mem.length ∧ SR K Zc ad3 H' σ' s3 ∧ Frm Zc n ad1 s1.mem H1 ad3 s3.mem H' := fun σ' ad' H' s' ⟨s5, w, hl5, q5⟩ I5 F5 =>
        ⟨ad', s5, q5, hl5, I5.wk w, (F3.trans F5 (Nat.le_refl n)).trans (w.frm hl5) (Nat.le_refl n)⟩
      refine h4 ad2 H3 σ4 _ I4 hl (fun σ' ad' H' s' a b c => nxt σ' ad' H' s' a b c) (fun v ad' H' rv m' a b c e => k2 v ad' H' rv m' a b (F14.trans c (Nat.le_refl n)) e)
        (fun σ' ad' H' s' a b c => k1 σ' ad' H' s' a b (F14.trans c (Nat.le_refl n))) (fun σ' ad' H' s' a b c => nxt σ' ad' H' s' a b c)
    · have e : i = items.length := by omega
      exact .inl ⟨js (by omega), k1 σ2 ad2 H2 s2 (hd s2 (e ▸ q) hl) I2 F02⟩
  )]
  intro _ hNoI
  simpa using (fun (_ : NoI.Sg) => hNoI) [5]
/-! ### comprehensions -/
def wipeS (sl : List SV) : List Nat → List SV
  | [] => sl
  | v :: vs => (wipeS sl vs).set v .un
theorem sr_wipe1 {sl : List SV} {i : Nat} (h : SR K Zc ad H σ ⟨sl, m⟩) : SR K Zc ad H (σ.set i none) ⟨sl.set i .un, m⟩ := by
  refine NoI.keep (fun _ wNoI => ?_) ?_
  simp only [↓ NoI.wrOf wNoI (by
  clear wNoI
  refine ⟨by simpa using h.len, fun j tv q => ?_, h.mr⟩
  have q : (sl.set i SV.un)[j]? = some tv := q
  rw [List.getElem?_set] at q
  rw [List.getElem?_set]
  have hl : σ.length = sl.length := h.len
  by_cases e : i = j
  · rw [if_pos e] at q ⊢
    split at q
    · cases q
      exact ⟨none, by rw [if_pos (by omega)], .inl rfl⟩
    · cases q
  · rw [if_neg e] at q ⊢
    exact h.slot j tv q
  )]
  intro _ hNoI
  simpa using (fun (_ : NoI.Sg) => hNoI) [5]
theorem sr_wipe {sl : List SV} (h : SR K Zc ad H σ ⟨sl, m⟩) : ∀ vs, SR K Zc ad H (wipe σ vs) ⟨wipeS sl vs, m⟩
  | [] => h
  | v :: vs => sr_wipe1 (sr_wipe h vs)
/-- the slots of a comprehension are forgotten: the rest stands as ahead of it -/
theorem sr_unwipe {sl : List SV} {vs : List Nat} (h : SR K Zc ad H (wipe σ vs) ⟨sl, m⟩) : SR K Zc ad H σ ⟨wipeS sl vs, m⟩ := by
  refine NoI.keep (fun _ wNoI => ?_) ?_
  simp only [↓ NoI.wrOf wNoI (by
  clear wNoI
  have h2 := sr_wipe h vs
  refine ⟨by have := h2.len; simpa [wipe_length] using this, fun j sv q => ?_, h.mr⟩
  obtain ⟨o, e1, e2⟩ := h2.slot j sv q
  rcases e2 with rfl | ⟨v, rfl, r⟩
  · have hj : j < (wipe (wipe σ vs) vs).length := (List.getElem?_eq_some_iff.mp e1).1
    rw [wipe_length, wipe_length] at hj
    exact ⟨σ[j], List.getElem?_eq_getElem hj, .inl rfl⟩
  · exact ⟨some v, (wipe_some (wipe_some e1).1).1, .inr ⟨v, rfl, r⟩⟩
  )]
  intro _ hNoI
  simpa using (fun (_ : NoI.Sg) => hNoI) [5]
/-- a target of a comprehension stores into its own slots alone -/
def GW (g : TG) (vs : List Nat) : Prop := ∀ v σ H (Q : L2.St → Hp → Prop), g v σ H (fun σ' H' => wipe σ' vs = wipe σ vs → Q σ' H') → g v σ H Q
theorem gw_name {i : Nat} : GW (gName i) [i] := by
  intro v σ H Q h
  refine h ?_
  show (σ.set i (some v)).set i none = σ.set i none
  rw [List.set_set]
theorem wipe_set {i : Nat} {x : Option V} {σ : L2.St} : ∀ {vs : List Nat}, i ∈ vs → wipe (σ.set i x) vs = wipe σ vs
  | [], h => by simp at h
  | v :: vs, h => by
    show (wipe (σ.set i x) vs).set v none = (wipe σ vs).set v none
    by_cases e : i ∈ vs
    · rw [wipe_set e]
    · have ev : i = v := by
        rcases List.mem_cons.mp h with q | q
        · exact q
        · exact absurd q e
      subst ev
      have : ∀ {ws : List Nat}, i ∉ ws → wipe (σ.set i x) ws = (wipe σ ws).set i x := by
        intro ws
        induction ws with
        | nil => intro _; rfl
        | cons w ws ih =>
          intro hn
          show (wipe (σ.set i x) ws).set w none = ((wipe σ ws).set w none).set i x
          rw [ih fun z => hn (List.mem_cons_of_mem _ z)]
          exact List.set_comm _ _ fun z => hn (z ▸ List.mem_cons_self)
      rw [this e, List.set_set]
theorem gw_pair {K' : PySem.W.Frag} {n i j : Nat} {vs : List Nat} (hi : i ∈ vs) (hj : j ∈ vs) : GW (gTup K' n (gCons (gName i) (gCons (gName j) gNil))) vs := by
  refine NoI.keep (fun _ wNoI => ?_) ?_
  simp only [↓ NoI.wrOf wNoI (by
  clear wNoI
  intro v σ H Q h
  obtain ⟨a, xs, e, q1, q2, x, r, e2, y, r2, e3, e4, q3⟩ := h
  refine ⟨a, xs, e, q1, q2, x, r, e2, y, r2, e3, e4, q3 ?_⟩
  rw [wipe_set hj, wipe_set hi]
  )]
  intro _ hNoI
  simpa using (fun (_ : NoI.Sg) => hNoI) [5]
theorem tt_yes {Ψ : Bool → S → Prop} (h : Ψ true s) : TtS K Zc tYes s Ψ := fun ad H σ Q I p => p true ad H s h I (.refl (Nat.le_refl _))
theorem ev_lc {wi : TI} {g : TG} {tt : TT} {te : TE} {vs : List Nat} (hw : GW g vs)
    (hi : IterS K Zc wi s fun items s1 => ∃ I : Nat → S → Prop, I 0 ⟨wipeS s1.sl vs, s1.mem ++ [some (.list [])]⟩ ∧
      (∀ i d s, items[i]? = some d → I i s → s1.mem.length < s.mem.length → GS K Zc g (.dat d) s fun s2 => TtS K Zc tt s2 fun b s3 =>
        (b = true → EvS K Zc te s3 (asD fun y s4 => ∃ acc, s4.mem[s1.mem.length]? = some (some (.list acc)) ∧ acc.length < sizeLine ∧ To (s1.mem.length + 1) (I (i + 1)) ⟨wipeS s4.sl vs, s4.mem.set s1.mem.length (some (.list (acc ++ [y])))⟩)) ∧
        (b = false → To (s1.mem.length + 1) (I (i + 1)) ⟨wipeS s3.sl vs, s3.mem⟩)) ∧
      (∀ s, I items.length s → Φ (.own s1.mem.length) ⟨wipeS s.sl vs, s.mem⟩)) : EvS K Zc (tLc wi g tt te vs) s Φ := by
  refine NoI.keep (fun _ wNoI => ?_) ?_
  simp only [↓ NoI.wrOf wNoI (by
  clear wNoI
  intro ad H σ Q I0 p
  refine hi ad H σ _ I0 fun J ad1 H1 items s1 h1 I1 F1 jok D hD => ?_
  obtain ⟨Inv, h0, hs, hd⟩ := h1
  have p1 := p.step F1
  have F1D : Frm Zc s1.mem.length ad1 s1.mem H1 (adN ad1 s1.mem D) (s1.mem ++ [some (.list [])]) (upd H1 D (.lst [])) := Frm.newO I1.mr hD
  have atD : (adN ad1 s1.mem D)[s1.mem.length]? = some D := adN_at I1.mr.adl
  -- from the state with the list's cell on
  refine ⟨fun i k H2 => i + k = items.length ∧ ∃ ad2 s2, Inv i s2 ∧ s1.mem.length < s2.mem.length ∧ SR K Zc ad2 H2 (wipe σ vs) s2 ∧ Frm Zc (s1.mem.length + 1) (adN ad1 s1.mem D) (s1.mem ++ [some (.list [])]) (upd H1 D (.lst [])) ad2 s2.mem H2, ⟨items.length, by simp, ?_⟩, ?_⟩
  · exact ⟨_, _, h0, by simp, sr_wipe (I1.newO (ds := .list []) hD (.lst .nil)) vs, .refl (by simp)⟩
  · rintro i k H2 ⟨hk, ad2, s2, q, hl, I2, F2⟩
    obtain ⟨jg, js⟩ := jok i ad2 H2 s2.mem (F1D.same.trans F2.same) I2.mr
    have aD2 : ad2[s1.mem.length]? = some D := by rw [F2.pre _ (Nat.lt_succ_self _), atD]
    by_cases hlt : i < items.length
    · obtain ⟨go, yl⟩ := jg hlt
      refine .inr ⟨go, fun H3 => ∃ ad3 s3, Inv (i + 1) s3 ∧ s1.mem.length < s3.mem.length ∧ SR K Zc ad3 H3 (wipe σ vs) s3 ∧ Frm Zc (s1.mem.length + 1) (adN ad1 s1.mem D) (s1.mem ++ [some (.list [])]) (upd H1 D (.lst [])) ad3 s3.mem H3, fun H3 q3 => ⟨k - 1, by omega, by omega, q3⟩, fun x H3 y => ?_⟩
      obtain ⟨hh, d, hd', r⟩ := yl x H3 y
      have I3 : SR K Zc ad2 H3 (wipe σ vs) s2 := by
        rcases hh with rfl | ⟨p, o, hp, rfl⟩
        · exact I2
        · exact I2.newT hp
      have F3 : Frm Zc (s1.mem.length + 1) (adN ad1 s1.mem D) (s1.mem ++ [some (.list [])]) (upd H1 D (.lst [])) ad2 s2.mem H3 := by
        rcases hh with rfl | ⟨p, o, hp, rfl⟩
        · exact F2
        · exact F2.trans (Frm.newT hp) F2.le
      refine hw x _ H3 _ (hs i d s2 hd' q hl ad2 H3 (wipe σ vs) x _ I3 r fun σ4 sl4 h4 I4 hσ => ?_)
      have hσ' : wipe σ4 vs = wipe σ vs := by
        rw [hσ]
        have : ∀ ws : List Nat, (∀ w ∈ ws, w ∈ vs) → wipe (wipe σ vs) ws = wipe σ vs := by
          intro ws hws
          induction ws with
          | nil => rfl
          | cons w ws ih =>
            show (wipe (wipe σ vs) ws).set w none = wipe σ vs
            rw [ih fun z hz => hws z (List.mem_cons_of_mem _ hz)]
            have hm := hws w List.mem_cons_self
            apply List.ext_getElem?
            intro t
            rw [List.getElem?_set]
            by_cases e : w = t
            · subst e
              rw [if_pos rfl]
              split
              · rename_i ht
                cases z : (wipe σ vs)[w]? with
                | none => rw [List.getElem?_eq_none_iff] at z; omega
                | some o =>
                  cases o with
                  | none => rfl
                  | some x => exact absurd hm (wipe_some z).2
              · rename_i ht
                rw [List.getElem?_eq_none_iff.mpr (by omega)]
            · rw [if_neg e]
        exact this vs fun _ h => h
      refine ⟨hσ', h4 ad2 H3 σ4 _ I4 fun b ad5 H5 s5 h5 I5 F5 => ?_⟩
      have F5' := F3.trans F5 F3.le
      cases b with
      | false =>
        show ∃ ad3 s3, _
        obtain ⟨s6, w6, hl6, q6⟩ := h5.2 rfl
        have I6 := sr_wipe (sl := s5.sl) (m := s5.mem) I5 vs
        rw [hσ'] at I6
        exact ⟨ad5, s6, q6, hl6, I6.wk w6, F5'.trans (w6.frm hl6) (Nat.le_refl _)⟩
      | true =>
        show te σ4 H5 _
        refine ev_asD (Φ := fun sv s4 => ∃ y, sv = .dat y ∧ ∃ acc, s4.mem[s1.mem.length]? = some (some (.list acc)) ∧ acc.length < sizeLine ∧ To (s1.mem.length + 1) (Inv (i + 1)) ⟨wipeS s4.sl vs, s4.mem.set s1.mem.length (some (.list (acc ++ [y])))⟩) (h5.1 rfl) (fun d s' z => ⟨d, rfl, z⟩) ad5 H5 σ4 _ I5 ?_
        intro v ad6 H6 sv s6 h6 I6 F6 r6
        obtain ⟨y, rfl, acc, e6, hz, s7, w7, hl7, q7⟩ := h6
        have F6' := F5'.trans F6 F5'.le
        have aD6 : ad6[s1.mem.length]? = some D := by rw [F6'.pre _ (Nat.lt_succ_self _), atD]
        obtain ⟨D', ou, e1, e2, e3⟩ := I6.mr.cell _ _ e6
        rw [aD6] at e1; cases e1
        obtain ⟨us, rfl, e4⟩ : ∃ us, ou = .lst us ∧ DVs K (FZ Zc ad6 s6.mem H6) us acc := by
          cases e3 with
          | lst e3 => exact ⟨_, rfl, e3⟩
        refine ⟨us, e2, by rw [dpAll_len e4]; exact hz, ?_⟩
        have I7 := sr_wipe (sl := s6.sl) (m := s6.mem.set s1.mem.length (some (.list (acc ++ [y])))) (I6.put e6 aD6 (.lst (dpAll_append e4 (.cons r6 .nil)))) vs
        rw [hσ'] at I7
        exact ⟨ad6, s7, q7, hl7, I7.wk w7, (F6'.trans (Frm.put e6 aD6) F6'.le).trans (w7.frm hl7) (Nat.le_refl _)⟩
    · have e : i = items.length := by omega
      refine .inl ⟨js (by omega), ?_⟩
      have F := F1D.trans F2 (by simp)
      refine p1 _ ad2 H2 (.own s1.mem.length) ⟨wipeS s2.sl vs, s2.mem⟩ (hd s2 (e ▸ q)) (sr_unwipe I2) F ⟨hl, D, aD2, rfl⟩
  )]
  intro _ hNoI
  simpa using (fun (_ : NoI.Sg) => hNoI) [5]
end
end SH

namespace SH
open PySem PySem.Spec PyProof.Rows L2
variable [WW]

/-! ### walks of a list, a tuple or a text -/
theorem pi_seq {X : Cx} {tg e : Expr} {te : TE} (he : PE X e te) : PI X tg e (iSeq X.K te) := by
  refine NoI.keep (fun _ wNoI => ?_) ?_
  simp only [↓ NoI.wrOf wNoI (by
  clear wNoI
  refine ⟨fun pins s σ H R I h => thn (he.run pins s σ H _ I h) ?_⟩
  rintro v s1 ⟨x, H1, J, r1, q1⟩
  rcases q1 with ⟨a, rfl, ⟨xs, hq⟩, q⟩ | ⟨a, rfl, ⟨xs, hq⟩, q⟩ | ⟨z, rfl, q⟩
  · cases r1
    obtain ⟨its, rv, p, hz⟩ := J.list hq
    exact wpAny_pyIter_list p.isList (pi_one J _ (turn_list a _) ⟨_, Heap.get?_push_size _ rfl, rfl, rfl⟩ q)
  · cases r1
    obtain ⟨its, rv, p, hz⟩ := J.tuple hq
    exact wpAny_pyIter_tuple p (pi_one J _ (turn_tuple a _) ⟨_, Heap.get?_push_size _ rfl, rfl, rfl⟩ q)
  · obtain ⟨t, rfl⟩ := r1
    cases ha : z.cps.all (· < 128)
    · exact wpAny_pyIter_wide ha (pi_one J _ (turn_str _ z t "str_iterator" (.inr rfl)) ⟨_, Heap.get?_push_size _ rfl, rfl, rfl⟩ q)
    · exact wpAny_pyIter_ascii ha (pi_one J _ (turn_str _ z t "str_ascii_iterator" (.inl rfl)) ⟨_, Heap.get?_push_size _ rfl, rfl, rfl⟩ q)
  )]
  intro _ hNoI
  simpa using (fun (_ : NoI.Sg) => hNoI) [5]
/-- the items of what is walked -/
def itemsD : D → Option (List D)
  | .list ds => some ds
  | .tuple ds => some ds
  | .str z => some (strD z)
  | _ => none
section
variable {K : PySem.W.Frag} {Zc : Addr → Prop} {s : S} {x y : SV} {Φ : SV → S → Prop} {n : Nat} {De : DE}
theorem it_seq {te : TE} {Ψ : List D → S → Prop} (h : EvS K Zc te s (asD fun d s' => ∃ ds, itemsD d = some ds ∧ Ψ ds s')) : IterS K Zc (iSeq K te) s Ψ := by
  refine NoI.keep (fun _ wNoI => ?_) ?_
  simp only [↓ NoI.wrOf wNoI (by
  clear wNoI
  intro ad H σ R I p
  refine ev_asD (Φ := fun sv s' => ∃ d ds, sv = .dat d ∧ itemsD d = some ds ∧ Ψ ds s') h (fun d s' ⟨ds, e, k⟩ => ⟨d, ds, rfl, e, k⟩) ad H σ _ I fun v ad1 H1 sv s1 h1 I1 F1 r1 => ?_
  obtain ⟨d, ds, rfl, e, k⟩ := h1
  cases d with
  | list es =>
    cases e
    obtain ⟨a, vs, rfl, h2, h3⟩ := lst_of r1
    exact .inl ⟨a, rfl, ⟨vs, SqL.of (Fz_at h2)⟩, p _ ad1 H1 ds s1 k I1 F1 (jok_list h2 h3)⟩
  | tuple es =>
    cases e
    obtain ⟨a, vs, rfl, h2, h3⟩ := tup_of r1
    exact .inr (.inl ⟨a, rfl, ⟨vs, sqT_same Fz_le h2⟩, p _ ad1 H1 ds s1 k I1 F1 (jok_tup h2 h3)⟩)
  | str z =>
    cases e
    cases r1
    exact .inr (.inr ⟨z, rfl, p _ ad1 H1 _ s1 k I1 F1 jok_str⟩)
  | none => cases e
  | bool _ => cases e
  | int _ => cases e
  | dict _ => cases e
  )]
  intro _ hNoI
  simpa using (fun (_ : NoI.Sg) => hNoI) [5]

/-! ### truth -/
def tTru (K : PySem.W.Frag) (ta : TE) : TT := fun σ H Q => ta σ H fun x H' => ∃ k, TruV K x H' k ∧ Q k H'
theorem pt_tru {X : Cx} {a : Expr} {ta : TE} (ha : PE X a ta) (he : ∀ whole, isTrue a X.env whole = (do let v ← whole; standAt a.pos; holding [v] (truthy v)) := by intro _; rfl) : PT X a (tTru X.K ta) := pt_truth ha he
def truD : D → Option Bool
  | .none => some false
  | .bool b => some b
  | .int i => some (i != 0)
  | .str z => some ((z.length : Int) != 0)
  | .list ds => some (!ds.isEmpty)
  | .tuple ds => some (!ds.isEmpty)
  | .dict _ => none
theorem dvs_empty {H : Hp} {vs : List V} {ds : List D} (h : DVs K H vs ds) : vs.isEmpty = ds.isEmpty := by cases h <;> rfl
theorem tt_tru {te : TE} {Ψ : Bool → S → Prop} (h : EvS K Zc te s fun sv s' => ∃ d b, rd s'.mem sv = some d ∧ truD d = some b ∧ (∀ z, d = .str z → z.length ≤ sizeLine) ∧ Ψ b s') : TtS K Zc (tTru K te) s Ψ := by
  refine NoI.keep (fun _ wNoI => ?_) ?_
  simp only [↓ NoI.wrOf wNoI (by
  clear wNoI
  intro ad H σ Q I p
  refine h ad H σ _ I fun v ad1 H1 sv s1 h1 I1 F1 r1 => ?_
  obtain ⟨d, b, e, t, hz, k⟩ := h1
  refine ⟨b, ?_, p b ad1 H1 s1 k I1 F1⟩
  have hd := rd_D I1.mr r1 e
  cases d with
  | none => cases t; cases hd; rfl
  | bool c => cases t; cases hd; rfl
  | int i => cases t; cases hd; rfl
  | str z => cases t; cases hd; exact ⟨hz z rfl, rfl⟩
  | list ds =>
    cases t
    cases hd with
    | lst h1 h2 => exact .inl ⟨_, SqL.of h1, by rw [dvs_empty h2]⟩
  | tuple ds =>
    cases t
    cases hd with
    | tup h1 h2 => exact .inr (.inl ⟨_, h1.sq, by rw [dvs_empty h2]⟩)
  | dict _ => cases t
  )]
  intro _ hNoI
  simpa using (fun (_ : NoI.Sg) => hNoI) [5]

/-! ### stores into a cell -/
theorem pget_list {X : Cx} : PGet X (rIxL X.K) := by
  refine NoI.keep (fun _ wNoI => ?_) ?_
  simp only [↓ NoI.wrOf wNoI (by
  clear wNoI
  intro pins s σ H o i ov iv Q I ro ri h
  obtain ⟨p, xs, k, v, rfl, rfl, hq, he, q⟩ := h
  cases ro
  obtain ⟨t, rfl⟩ := ri
  obtain ⟨its, r, pl, hz⟩ := I.list hq
  obtain ⟨j, h1, h2, h3, h4, h5⟩ := atI_get he
  obtain ⟨u, eu, ru⟩ := r.get h2
  have hl := r.length
  have hn := line63
  by_cases h0 : 0 ≤ k
  · have hj : k.toNat = j := Option.some.inj ((seqIndex_of h0 h5).symm.trans h1)
    exact wpAny_getItem_list pl.isList h0 (by omega) (by rw [hj]; simpa using eu) ⟨v, H, I, ru, q⟩
  · have hj : (k + (its.toArray.size : Int)).toNat = j := by
      rw [seqIndex_neg (by omega) h4] at h1
      rw [List.size_toArray, ← hl]
      exact Option.some.inj h1
    exact wpAny_getItem_list_neg pl.isList (by omega) (by rw [List.size_toArray] <;> omega) (by omega) (by rw [hj]; simpa using eu) ⟨v, H, I, ru, q⟩
  )]
  intro _ hNoI
  simpa using (fun (_ : NoI.Sg) => hNoI) [5]
/-- xs[i] = e -/
theorem ex_put {te to ti : TE} (h : EvS K Zc te s (asD fun d s1 => EvS K Zc to s1 fun o s2 => EvS K Zc ti s2 fun i s3 => ∃ j ds k idx, o = .own j ∧ i = .dat (.int k) ∧ s3.mem[j]? = some (some (.list ds)) ∧ ixN ds.length k = some idx ∧ De.nx ⟨s3.sl, s3.mem.set j (some (.list (ds.set idx d)))⟩)) :
    ExS K Zc n (tAsg te (gSub to ti rSetL)) s De := by
  refine NoI.keep (fun _ wNoI => ?_) ?_
  simp only [↓ NoI.wrOf wNoI (by
  clear wNoI
  intro ad H σ Dd I hn k1 k2 k3 k4
  refine ev_asD (Φ := fun sv s1 => ∃ d, sv = .dat d ∧ EvS K Zc to s1 fun o s2 => EvS K Zc ti s2 fun i s3 => ∃ j ds k idx, o = .own j ∧ i = .dat (.int k) ∧ s3.mem[j]? = some (some (.list ds)) ∧ ixN ds.length k = some idx ∧ De.nx ⟨s3.sl, s3.mem.set j (some (.list (ds.set idx d)))⟩) h (fun d s' z => ⟨d, rfl, z⟩) ad H σ _ I fun v ad1 H1 sv s1 h1 I1 F1 r1 => ?_
  obtain ⟨d, rfl, h1⟩ := h1
  refine h1 ad1 H1 σ _ I1 fun o ad2 H2 so s2 h2 I2 F2 r2 => h2 ad2 H2 σ _ I2 fun i ad3 H3 si s3 h3 I3 F3 r3 => ?_
  obtain ⟨j, ds, k, idx, rfl, rfl, e, hx, q⟩ := h3
  cases r3
  obtain ⟨a, us, rfl, ha, hH, hd⟩ := own_at I3.mr (r2.frm F3) e
  have hv := (r1.frm F2).frm F3
  refine ⟨a, us, k, idx, rfl, rfl, hH, by rw [dpAll_len hd]; exact hx, ?_⟩
  exact k1 σ ad3 _ _ q (I3.put e ha (.lst (dpAll_set hv idx hd))) ((((F1.trans F2 F1.le).trans F3 (Nat.le_trans F1.le F2.le)).trans (Frm.put e ha) (Nat.le_trans F1.le (Nat.le_trans F2.le F3.le))).less hn)
  )]
  intro _ hNoI
  simpa using (fun (_ : NoI.Sg) => hNoI) [5]
/-- xs[i] op= e of ints -/
theorem ex_augS {to ti te : TE} {f : Int → Int → Int} (h : EvS K Zc to s fun o s1 => EvS K Zc ti s1 fun i s2 => ∃ j ds k a, o = .own j ∧ i = .dat (.int k) ∧ s2.mem[j]? = some (some (.list ds)) ∧ atI ds k = some (.int a) ∧
      EvS K Zc te s2 fun y s3 => ∃ b idx es, rd s3.mem y = some (.int b) ∧ s3.mem[j]? = some (some (.list es)) ∧ ixN es.length k = some idx ∧ De.nx ⟨s3.sl, s3.mem.set j (some (.list (es.set idx (.int (f a b)))))⟩) : ExS K Zc n (tAugS to ti te (rIxL K) (ipI f) rSetL) s De := by
  refine NoI.keep (fun _ wNoI => ?_) ?_
  simp only [↓ NoI.wrOf wNoI (by
  clear wNoI
  intro ad H σ Dd I hn k1 k2 k3 k4
  refine h ad H σ _ I fun o ad1 H1 so s1 h1 I1 F1 r1 => h1 ad1 H1 σ _ I1 fun i ad2 H2 si s2 h2 I2 F2 r2 => ?_
  obtain ⟨j, ds, k, a, rfl, rfl, e, he, h2⟩ := h2
  obtain ⟨p, us, rfl, ha, hH, hd⟩ := own_at I2.mr (r1.frm F2) e
  cases r2
  obtain ⟨v, q1, q2⟩ := atI_dvs hd he
  cases q2
  refine ⟨p, us, k, .int a, rfl, rfl, SqL.of hH, q1, ?_⟩
  refine h2 ad2 H2 σ _ I2 fun y ad3 H3 sy s3 h3 I3 F3 r3 => ?_
  obtain ⟨b, idx, es, hb, e5, hx, q⟩ := h3
  refine ⟨a, b, rfl, rd_int I3.mr r3 hb, ?_⟩
  obtain ⟨p', us', e6, ha', hH', hd'⟩ := own_at I3.mr ((r1.frm F2).frm F3) e5
  cases e6
  refine ⟨p, us', k, idx, rfl, rfl, hH', by rw [dpAll_len hd']; exact hx, ?_⟩
  exact k1 σ ad3 _ _ q (I3.put e5 ha' (.lst (dpAll_set (.int _) idx hd'))) ((((F1.trans F2 F1.le).trans F3 (Nat.le_trans F1.le F2.le)).trans (Frm.put e5 ha') (Nat.le_trans F1.le (Nat.le_trans F2.le F3.le))).less hn)
  )]
  intro _ hNoI
  simpa using (fun (_ : NoI.Sg) => hNoI) [5]
theorem ex_par {i j : Nat} {ta : TA} (h : ArS K Zc ta s fun svs s1 => ∃ x y, svs = [x, y] ∧ De.nx ⟨(s1.sl.set i x).set j y, s1.mem⟩) : ExS K Zc n (tPar i j ta) s De := by
  refine NoI.keep (fun _ wNoI => ?_) ?_
  simp only [↓ NoI.wrOf wNoI (by
  clear wNoI
  intro ad H σ Dd I hn k1 k2 k3 k4
  refine h ad H σ _ I fun vs ad1 H1 svs s1 h1 I1 F1 r1 => ?_
  obtain ⟨x, y, rfl, q⟩ := h1
  obtain ⟨v, u, rfl, rx, ry⟩ := vrs2 r1
  exact ⟨v, u, rfl, k1 _ ad1 H1 _ q ((I1.set rx).set (s := ⟨s1.sl.set i x, s1.mem⟩) ry) (F1.less hn)⟩
  )]
  intro _ hNoI
  simpa using (fun (_ : NoI.Sg) => hNoI) [5]
theorem vrs3 {ad : List Addr} {m : Mem} {H : Hp} {vs : List V} {x y z : SV} (h : VRs K Zc ad m H vs [x, y, z]) : ∃ v u w, vs = [v, u, w] ∧ VR K Zc ad m H v x ∧ VR K Zc ad m H u y ∧ VR K Zc ad m H w z := by
  refine NoI.keep (fun _ wNoI => ?_) ?_
  simp only [↓ NoI.wrOf wNoI (by
  clear wNoI
  match vs, h with
  | [v, u, w], h => exact ⟨v, u, w, rfl, h.1, h.2.1, h.2.2.1⟩
  | [], h => exact h.elim
  | [_], h => exact h.2.elim
  | [_, _], h => exact h.2.2.elim
  | _ :: _ :: _ :: _ :: _, h => exact h.2.2.2.elim
  )]
  intro _ hNoI
  simpa using (fun (_ : NoI.Sg) => hNoI) [5]
theorem ex_par3 {i j k : Nat} {ta : TA} (h : ArS K Zc ta s fun svs s1 => ∃ x y z, svs = [x, y, z] ∧ De.nx ⟨((s1.sl.set i x).set j y).set k z, s1.mem⟩) : ExS K Zc n (tPar3 i j k ta) s De := by
  refine NoI.keep (fun _ wNoI => ?_) ?_
  simp only [↓ NoI.wrOf wNoI (by
  clear wNoI
  intro ad H σ Dd I hn k1 k2 k3 k4
  refine h ad H σ _ I fun vs ad1 H1 svs s1 h1 I1 F1 r1 => ?_
  obtain ⟨x, y, z, rfl, q⟩ := h1
  obtain ⟨v, u, w, rfl, rx, ry, rz⟩ := vrs3 r1
  exact ⟨v, u, w, rfl, k1 _ ad1 H1 _ q (((I1.set rx).set (s := ⟨s1.sl.set i x, s1.mem⟩) ry).set (s := ⟨(s1.sl.set i x).set j y, s1.mem⟩) rz) (F1.less hn)⟩
  )]
  intro _ hNoI
  simpa using (fun (_ : NoI.Sg) => hNoI) [5]
end
/-! ### a def of the text, known by its name -/
def Cal (P : Program) (K : PySem.W.Frag) (mg : Str → Option Value) (base : Heap) (k : Nat) (x : Str) (ps : List Str) (C : Ct) : Prop :=
  ∃ f fd, FnG P WW.w K mg base CX0 k f fd ps (spP K C) ∧ Binds K fd ps [] ∧ mg x = some (.ref f) ∧ PySem.W.keepIn K (.ref f) = true
theorem pe_callC {X : Cx} {k : Nat} {x : Str} {ps : List Str} {C : Ct} {p pos : Pos} {e : Expr} {es : List Expr} {t : TA} (c : @Cal ⟨X.w⟩ X.prog X.K X.mg X.base k x ps C) (hG : X.A.guards = some []) (hr : Room k X.A) (hg : Gl X x) (ha : PA X (e :: es) t)
    (hdb : (x == ("__debug__" : Str)) = false := by decide) (he : starEach (e :: es) X.env = (false, eval e X.env) :: starEach es X.env := by rfl) (hpl : (backTo pos (starEach es X.env)).any (·.1) = false := by rfl) : PE X (.Call (.Name x p) (e :: es) [] pos) (tCall (@spP ⟨X.w⟩ X.K C) [] E0 t) := by
  obtain ⟨f, fd, F, b, m, kp⟩ := c
  exact pe_callG F hG hr hg m kp b .nil pass0 ha hdb he hpl
end SH

namespace SH
open PySem PySem.Spec PyProof.Rows L2 HT
variable [WW]

theorem fm_congr {α β : Type} {f g : α → Option β} : ∀ {l : List α}, (∀ x ∈ l, f x = g x) → l.filterMap f = l.filterMap g
  | [], _ => rfl
  | x :: l, h => by
    rw [List.filterMap_cons, List.filterMap_cons, h x List.mem_cons_self, fm_congr fun y hy => h y (List.mem_cons_of_mem _ hy)]
section
variable {prog : Program} {w : World} {A : Around} {E : Value → Shared → Prop} {s : Shared}
theorem applied_rev {sl : Addr} {vl vu vs : Value} {n : Nat} {Q : Int × Int × Nat → Shared → Prop}
    (hs : s.heap.IsSliceOf sl vl vu vs) (pl : IsPart vl none) (pu : IsPart vu none) (ps : IsPart vs (some (-1)))
    (h : Q ((n : Int) - 1, -1, n) s) :
    wpAny (model prog w) A (Builtin.Slice.sliceApplied (.ref sl) (pure (n : Int))) Q E s := by
  refine NoI.keep (fun _ wNoI => ?_) ?_
  simp only [↓ NoI.wrOf wNoI (by
  clear wNoI
  obtain ⟨os, ho, hc, hd⟩ := id hs
  unfold Builtin.Slice.sliceApplied Builtin.Slice.sliceFields
  refine wpAny_bind (wpAny_bind (wpAny_field ho hd (x := vl) rfl ?_))
  refine wpAny_bind (wpAny_field ho hd (x := vu) rfl ?_)
  refine wpAny_bind (wpAny_field ho hd (x := vs) rfl (wpAny_pure ?_))
  refine wpAny_bind (slicePart_ ps ?_)
  show wpAny _ _ (if ((-1 : Int) == 0) = true then _ else _) _ _ s
  rw [if_neg (by decide)]
  refine wpAny_bind (slicePart_ pl ?_)
  refine wpAny_bind (slicePart_ pu (wpAny_bind (wpAny_pure ?_)))
  have e1 : Builtin.Slice.sliceAdjust none none (-1) (n : Int) = ((n : Int) - 1, -1) := by
    simp [Builtin.Slice.sliceAdjust]
  have e2 : Builtin.Slice.slicePlaces ((n : Int) - 1) (-1) (-1) = n := by
    unfold Builtin.Slice.slicePlaces
    rw [if_neg (by decide)]
    split
    · rw [show -(-1 : Int) = 1 from rfl, Int.ediv_one]
      omega
    · omega
  show wpAny _ _ (match Builtin.Slice.sliceAdjust none none (-1) (n : Int) with | (lo, hi) => pure (lo, (-1 : Int), Builtin.Slice.slicePlaces lo hi (-1))) _ _ s
  rw [e1]
  show wpAny _ _ (pure ((n : Int) - 1, (-1 : Int), Builtin.Slice.slicePlaces ((n : Int) - 1) (-1) (-1))) _ _ s
  rw [e2]
  exact wpAny_pure h
  )]
  intro _ hNoI
  simpa using (fun (_ : NoI.Sg) => hNoI) [5]
theorem pick_rev (xs : Array Value) : ((List.range xs.size).filterMap fun (k : Nat) => xs[((xs.size : Int) - 1 + (k : Int) * (-1)).toNat]?).toArray = xs.toList.reverse.toArray := by
  refine NoI.keep (fun _ wNoI => ?_) ?_
  simp only [↓ NoI.wrOf wNoI (by
  clear wNoI
  congr 1
  have : ∀ k ∈ List.range xs.size, xs[((xs.size : Int) - 1 + (k : Int) * (-1)).toNat]? = xs.toList.reverse[k]? := by
    intro k hk
    have hk : k < xs.size := List.mem_range.mp hk
    rw [List.getElem?_reverse (by simpa using hk)]
    have : ((xs.size : Int) - 1 + (k : Int) * (-1)).toNat = xs.toList.length - 1 - k := by
      rw [Array.length_toList]
      omega
    rw [this]
    simp
  rw [fm_congr this]
  have e : ∀ ys : List Value, (List.range ys.length).filterMap (fun k => ys[k]?) = ys := by
    intro ys
    apply List.ext_getElem?
    intro i
    have h1 : (List.range ys.length).filterMap (fun k => ys[k]?) = (List.range ys.length).attach.map (fun k => ys[k.1]'(List.mem_range.mp k.2)) := by
      rw [← List.filterMap_eq_map]
      conv => lhs; rw [← List.attach_map_subtype_val (List.range ys.length)]
      rw [List.filterMap_map]
      congr 1
      funext k
      simp [List.getElem?_eq_getElem (List.mem_range.mp k.2)]
    rw [h1]
    by_cases hi : i < ys.length
    · simp [hi]
    · simp [hi]
  have := e xs.toList.reverse
  rw [List.length_reverse, Array.length_toList] at this
  exact this
  )]
  intro _ hNoI
  simpa using (fun (_ : NoI.Sg) => hNoI) [5]
theorem getItem_tup_rev {t sl : Addr} {items : Array Value} {vl vu vs : Value} {Q : Value → Shared → Prop}
    (ht : IsTup s.heap t items) (hs : s.heap.IsSliceOf sl vl vu vs) (pl : IsPart vl none) (pu : IsPart vu none) (ps : IsPart vs (some (-1)))
    (hz : items.size ≤ sizeLine)
    (h : Q (.ref s.heap.objs.size) { s with heap := s.heap.push { cls := .type "tuple", data := .seq items.toList.reverse.toArray } }) :
    wpAny (model prog w) A (getItem (.ref t) (.ref sl)) Q E s := by
  refine NoI.keep (fun _ wNoI => ?_) ?_
  simp only [↓ NoI.wrOf wNoI (by
  clear wNoI
  have fit : sizeOk (.seq items.toList.reverse.toArray) := by
    show items.toList.reverse.toArray.size ≤ sizeLine
    simpa using hz
  have ty : s.TypeIs (.ref sl) "slice" := by
    obtain ⟨os, h1, h2, _⟩ := id hs
    exact ⟨os, h1, h2⟩
  unfold getItem
  try with_reducible refine wpAny_holding ?_
  first | refine wpAny_bind (wpAny_pure ?_) | skip
  refine wpAny_bind (wpAny_sequenceKey ht.typeIs (by decide) ?_)
  refine wpAny_bind (wpAny_callSpecial?_slot (name := Str.ofString "__getitem__") ht.typeIs PyProof.Rows.slot_tuple_getitem ?_)
  refine wpAny_call_entry PyProof.Rows.slot_tuple_getitem ht.typeIs entry_tuple_getitem ?_ (args_tuple_getitem _ _)
  show wpAny _ _ (Builtin.Tuple.tupleItemsOf (.ref t) >>= _) _ _ s
  refine wpAny_bind (tupleItemsOf_ ht (wpAny_bind (wpAny_typeOf ty ?_)))
  rw [if_pos (by decide)]
  refine wpAny_bind (applied_rev hs pl pu ps ?_)
  show wpAny _ _ (if (((items.size : Int) - 1 == 0 && (-1 : Int) == 1 && items.size == items.size)) = true then _ else _) _ _ s
  rw [if_neg (by simp), pick_rev]
  first
    | exact wpAny_bind (m := Builtin.Tuple.tupleExact _)
        (wpAny_newObj_type (wpAny_pure ⟨_, rfl, wpAny_pure h⟩) fit)
    | exact wpAny_bind (m := Builtin.Tuple.tupleExact _)
        (wpAny_newObj_type (wpAny_bind (wpAny_pure (wpAny_pure ⟨_, rfl, wpAny_pure h⟩))) fit)
    | exact wpAny_bind (wpAny_bind (m := Builtin.Tuple.tupleExact _)
        (wpAny_newObj_type (wpAny_pure (wpAny_pure ⟨_, rfl, wpAny_pure h⟩)) fit))
    | exact wpAny_bind (wpAny_bind (m := Builtin.Tuple.tupleExact _)
        (wpAny_newObj_type (wpAny_pure ⟨_, rfl, wpAny_pure h⟩) fit))
  )]
  intro _ hNoI
  simpa using (fun (_ : NoI.Sg) => hNoI) [5]
end
/-- x[::-1] of a list or a tuple -/
def tRevU (K : PySem.W.Frag) (te : TE) : TE := fun σ H Q => te σ H fun x H1 =>
  (∃ a xs, x = .ref a ∧ SqL K H1 a xs ∧ ∀ p, H1 p = none → Q (.ref p) (upd H1 p (.lst xs.reverse))) ∨
    (∃ a xs, x = .ref a ∧ SqT K H1 a xs ∧ mkT H1 xs.reverse Q)
theorem pe_revU {X : Cx} {e : Expr} {te : TE} {k : Nat} {p1 p2 p3 pos : Pos} (he : PE X e te) :
    PE X (.Subscript e (.Slice none none (some (.UnaryOp .USub (.Constant (.int 1) k p1) p2)) p3) pos) (tRevU X.K te) := by
  refine NoI.keep (fun _ wNoI => ?_) ?_
  simp only [↓ NoI.wrOf wNoI (by
  clear wNoI
  have step : PO X (some (.UnaryOp .USub (.Constant (.int 1) k p1) p2)) _ := po_some (pe_un un_neg pe_int)
  refine ⟨fun pins s σ H Q I h => Subscript_ (thn (he.run pins s σ H _ I h) ?_)⟩
  rintro v s1 ⟨x, H1, I1, r1, q1⟩
  refine wpAny_Slice (thn (po_none.run pins s1 σ H1 (fun o H2 => o = none ∧ H2 = H1) I1 ⟨rfl, rfl⟩) ?_)
  rintro vl s2 ⟨l, H2, I2, pl, rfl, rfl⟩
  refine thn (po_none.run pins s2 σ H2 (fun o H3 => o = none ∧ H3 = H2) I2 ⟨rfl, rfl⟩) ?_
  rintro vu s3 ⟨u, H3, I3, pu, rfl, rfl⟩
  refine thn (step.run pins s3 σ H3 (fun o H4 => o = some (-1) ∧ H4 = H3) I3 ⟨1, rfl, -1, rfl, rfl, rfl⟩) ?_
  rintro vs s4 ⟨o, H4, I4, ps, rfl, rfl⟩
  have I5 := I4.kept (h' := s4.heap.push { cls := .type "slice", data := .fields #[vl, vu, vs] }) (t' := s4.toks)
    fun b ob q => Heap.get?_push_of_some _ q
  rcases q1 with ⟨a, xs, rfl, hx, q⟩ | ⟨a, xs, rfl, hx, q⟩
  · cases r1
    obtain ⟨its, r, ht, hz⟩ := I5.list hx
    have hlen := r.length
    show wpAny (model X.prog X.w) X.A (subscriptTail e _ (.ref a) (.ref s4.heap.objs.size)) (EP X pins σ Q) X.xe _
    refine tail_any (ops := [.ref a, .ref s4.heap.objs.size]) ht.isList.typeIs PySem.slot_list_getitem.lookup ?_ (by with_unfolding_all rfl)
    refine wpAny_getItem_list_slice ht.isList (Heap.IsSliceOf.new _ vl vu vs) pl pu ps (by decide) ?_
      (by rw [List.size_toArray]; omega)
    rw [PySem.W.krv_pick]
    have lay := I5.laid (t' := s4.toks) (o := .lst xs.reverse) (fun b ob q => Heap.get?_push_of_some _ q) (Nat.le_refl _)
      ⟨by rw [List.length_reverse]; exact hz, _, 0, r.reverse, Heap.get?_push_size _ rfl⟩
    exact ⟨.ref _, _, lay, rfl, q _ (I5.hok.fresh (Nat.le_refl _))⟩
  · cases r1
    obtain ⟨its, r, ht, hz⟩ := I5.tuple hx
    have hlen := r.length
    show wpAny (model X.prog X.w) X.A (subscriptTail e _ (.ref a) (.ref s4.heap.objs.size)) (EP X pins σ Q) X.xe _
    refine tail_any (ops := [.ref a, .ref s4.heap.objs.size]) ht.typeIs PyProof.Rows.slot_tuple_getitem.lookup ?_ (by with_unfolding_all rfl)
    refine getItem_tup_rev ht (Heap.IsSliceOf.new _ vl vu vs) pl pu ps (by rw [List.size_toArray]; omega) ?_
    exact newTup I5 r.reverse (by rw [List.length_reverse]; exact hz) q
  )]
  intro _ hNoI
  simpa using (fun (_ : NoI.Sg) => hNoI) [5]
end SH

namespace SH
open PySem PySem.Spec PyProof.Rows L2
variable [WW]

/-! ### the remaining constructs -/
def rJoin (K : PySem.W.Frag) : V → List V → Hp → VK → Prop := fun x xs H Q => ∃ a p, ∃ ys : List Str, x = .str a ∧ xs = [.ref p] ∧ (SqL K H p (ys.map V.str) ∨ SqT K H p (ys.map V.str)) ∧ (ys.map (·.length)).sum + ys.length * a.length ≤ 16777216 ∧ Q (.str (Txt.join a ys)) H
section
variable {K : PySem.W.Frag} {Zc : Addr → Prop} {s : S} {x y : SV} {Φ : SV → S → Prop} {n : Nat} {De : DE}
theorem ev_revT {te : TE} (h : EvS K Zc te s fun x s1 => ∃ ds, rd s1.mem x = some (.tuple ds) ∧ Φ (.dat (.tuple ds.reverse)) s1) : EvS K Zc (tRevU K te) s Φ := by
  refine NoI.keep (fun _ wNoI => ?_) ?_
  simp only [↓ NoI.wrOf wNoI (by
  clear wNoI
  intro ad H σ Q I p
  refine h ad H σ _ I fun v ad1 H1 x s1 h1 I1 F1 r1 => ?_
  obtain ⟨ds, e, k⟩ := h1
  obtain ⟨a, vs, rfl, e1, d1⟩ := rd_tup I1.mr r1 e
  exact .inr ⟨a, vs, rfl, e1, (p.step F1).tup I1 k (dpAll_rev d1)⟩
  )]
  intro _ hNoI
  simpa using (fun (_ : NoI.Sg) => hNoI) [5]
theorem ev_join {to te : TE} (h : EvS K Zc to s fun x s1 => ∃ a, rd s1.mem x = some (.str a) ∧ EvS K Zc te s1 fun y s2 => ∃ ys : List Str, (rd s2.mem y = some (.list (ys.map PyData.str)) ∨ rd s2.mem y = some (.tuple (ys.map PyData.str))) ∧ (ys.map (·.length)).sum + ys.length * a.length ≤ 16777216 ∧ Φ (.dat (.str (Txt.join a ys))) s2) :
    EvS K Zc (tM1 (rJoin K) to te) s Φ := by
  refine NoI.keep (fun _ wNoI => ?_) ?_
  simp only [↓ NoI.wrOf wNoI (by
  clear wNoI
  intro ad H σ Q I p
  refine h ad H σ _ I fun v ad1 H1 x s1 h1 I1 F1 r1 => ?_
  obtain ⟨a, e, h1⟩ := h1
  have := rd_str I1.mr r1 e
  subst this
  refine ⟨⟨a, rfl⟩, h1 ad1 H1 σ _ I1 fun u ad2 H2 y s2 h2 I2 F2 r2 => ?_⟩
  obtain ⟨ys, hy, hz, k⟩ := h2
  rcases hy with hy | hy
  · obtain ⟨b, us, rfl, e1, d1⟩ := rd_lst I2.mr r2 hy
    rw [dpAll_strs d1] at e1
    exact ⟨a, b, ys, rfl, rfl, .inl (SqL.of e1), hz, ((p.step F1).step F2).val I2 k (.str _)⟩
  · obtain ⟨b, us, rfl, e1, d1⟩ := rd_tup I2.mr r2 hy
    rw [dpAll_strs d1] at e1
    exact ⟨a, b, ys, rfl, rfl, .inr e1, hz, ((p.step F1).step F2).val I2 k (.str _)⟩
  )]
  intro _ hNoI
  simpa using (fun (_ : NoI.Sg) => hNoI) [5]
theorem ev_andV {ta tb : TE} (h : EvS K Zc ta s fun x s1 => ∃ b, x = .dat (.bool b) ∧ (b = true → EvS K Zc tb s1 Φ) ∧ (b = false → Φ (.dat (.bool false)) s1)) : EvS K Zc (tAndV ta tb) s Φ := by
  refine NoI.keep (fun _ wNoI => ?_) ?_
  simp only [↓ NoI.wrOf wNoI (by
  clear wNoI
  intro ad H σ Q I p
  refine h ad H σ _ I fun v ad1 H1 x s1 h1 I1 F1 r1 => ?_
  obtain ⟨b, rfl, h1, h2⟩ := h1
  cases r1
  refine ⟨b, rfl, ?_⟩
  cases b with
  | true => exact h1 rfl ad1 H1 σ Q I1 (p.step F1)
  | false => exact (p.step F1).val I1 (h2 rfl) (.bl false)
  )]
  intro _ hNoI
  simpa using (fun (_ : NoI.Sg) => hNoI) [5]
theorem un_neg' {i : Int} (h1 : rd s.mem x = some (.int i)) (k : Φ (.dat (.int (-i))) s) : UnS K Zc (rU fun i => .int (-i)) x s Φ := by
  intro ad H σ v Q I r p
  exact ⟨i, rd_int I.mr r h1, p.val I k (sv := .dat _) (.int _)⟩

/-! ### arguments as they will stay -/
def ArD (K : PySem.W.Frag) (Zc : Addr → Prop) (t : TA) (s : S) (Ψ : List D → S → Prop) : Prop := ArS K Zc t s fun svs s' => ∃ ds, svs = ds.map SV.dat ∧ Ψ ds s'
theorem ad_nil {Ψ : List D → S → Prop} (k : Ψ [] s) : ArD K Zc tNil s Ψ := ar_nil ⟨[], rfl, k⟩
theorem ArS.imp {t : TA} {Ψ Ψ' : List SV → S → Prop} (h : ArS K Zc t s Ψ) (k : ∀ a b, Ψ a b → Ψ' a b) : ArS K Zc t s Ψ' := fun ad H σ Q I p => h ad H σ Q I fun vs ad' H' svs s' a b c d => p vs ad' H' svs s' (k _ _ a) b c d
theorem ad_cons {ta : TE} {tr : TA} {Ψ : List D → S → Prop} (h : EvS K Zc ta s (asD fun d s1 => ArD K Zc tr s1 fun ds s2 => Ψ (d :: ds) s2)) : ArD K Zc (tCons ta tr) s Ψ :=
  ar_cons (ev_asD h fun d s' q => ArS.imp q fun svs s2 ⟨ds, e, k⟩ => ⟨d :: ds, by rw [e]; rfl, k⟩)
theorem allD_dat : ∀ ds : List D, allD (ds.map SV.dat) = some ds
  | [] => rfl
  | d :: ds => by simp [allD, allD_dat ds]
theorem noOwn_dat : ∀ ds : List D, noOwn (ds.map SV.dat) = true
  | [] => rfl
  | d :: ds => by simp [noOwn, noOwn_dat ds]
theorem ev_tupD {ta : TA} (h : ArD K Zc ta s fun ds s1 => ds.length ≤ sizeLine ∧ Φ (.dat (.tuple ds)) s1) : EvS K Zc (tTupF ta) s Φ :=
  ev_tup (ArS.imp h fun svs s1 ⟨ds, e, hz, k⟩ => ⟨ds, by rw [e]; exact allD_dat ds, hz, k⟩)
theorem ev_lstD {ta : TA} (h : ArD K Zc ta s fun ds s1 => ds.length ≤ sizeLine ∧ Φ (.own s1.mem.length) ⟨s1.sl, s1.mem ++ [some (.list ds)]⟩) : EvS K Zc (tLst ta) s Φ :=
  ev_lst (ArS.imp h fun svs s1 ⟨ds, e, hz, k⟩ => ⟨ds, by rw [e]; exact allD_dat ds, hz, k⟩)
theorem ev_callD {C : Ct} {E : XK} {ta : TA} (h : ArD K Zc ta s fun ds s1 => C (ds.map SV.dat) [] (backP s1 Φ)) : EvS K Zc (tCall (spP K C) [] E ta) s Φ :=
  ev_call0 (ArS.imp h fun svs s1 ⟨ds, e, k⟩ => ⟨by rw [e]; exact noOwn_dat ds, by rw [e]; exact k⟩)
theorem ev_callBD {C : Ct} {E : XK} {i j : Nat} {tr : TA} (hi : s.sl[i]? = some (.own j)) (h : ArD K Zc tr s fun ds s1 => ∃ bs, s1.mem[j]? = some (some bs) ∧ C (.own 0 :: ds.map SV.dat) [some bs] (backB s1 j Φ)) :
    EvS K Zc (tCall (spP K C) [] E (tCons (tVar i) tr)) s Φ :=
  ev_callB (ar_cons (ev_var hi (by intro z; cases z) (ArS.imp h fun svs s1 ⟨ds, e, bs, h1, k⟩ => ⟨j, svs, bs, rfl, by rw [e]; exact noOwn_dat ds, h1, by rw [e]; exact k⟩)))
theorem asD_dat {Ψ : D → S → Prop} {d : D} (h : Ψ d s) : asD Ψ (.dat d) s := h
theorem asD_own {Ψ : D → S → Prop} {i : Nat} {ds : D} (e : s.mem[i]? = some (some ds)) (h : Ψ ds (s.fz i ds)) : asD Ψ (.own i) s := by
  show (match s.mem[i]? with | some (some ds) => Ψ ds (s.fz i ds) | _ => False)
  rw [e]
  exact h
theorem os_eqB {d e : D} (h1 : rd s.mem x = some d) (h2 : rd s.mem y = some e) (s1 : SeqAt.shaped d = true) (s2 : SeqAt.shaped e = true) {b : Bool} (hb : PyData.eqv d e = b) (k : Φ (.dat (.bool b)) s) : OpS K Zc (rEqU K) x y s Φ := os_eq h1 h2 s1 s2 (hb ▸ k)
theorem os_lt {i j : Int} (h1 : rd s.mem x = some (.int i)) (h2 : rd s.mem y = some (.int j)) (k : Φ (.dat (.bool (decide (i < j)))) s) : OpS K Zc (rI0 fun i j => .bl (decide (i < j))) x y s Φ := os_I0 h1 h2 (fun _ => .bl _) k
theorem os_le {i j : Int} (h1 : rd s.mem x = some (.int i)) (h2 : rd s.mem y = some (.int j)) (k : Φ (.dat (.bool (decide (i ≤ j)))) s) : OpS K Zc (rI0 fun i j => .bl (decide (i ≤ j))) x y s Φ := os_I0 h1 h2 (fun _ => .bl _) k
theorem os_gt {i j : Int} (h1 : rd s.mem x = some (.int i)) (h2 : rd s.mem y = some (.int j)) (k : Φ (.dat (.bool (decide (j < i)))) s) : OpS K Zc (rI0 fun i j => .bl (decide (j < i))) x y s Φ := os_I0 h1 h2 (fun _ => .bl _) k
theorem os_ge {i j : Int} (h1 : rd s.mem x = some (.int i)) (h2 : rd s.mem y = some (.int j)) (k : Φ (.dat (.bool (decide (j ≤ i)))) s) : OpS K Zc (rI0 fun i j => .bl (decide (j ≤ i))) x y s Φ := os_I0 h1 h2 (fun _ => .bl _) k
theorem os_sub {i j : Int} (h1 : rd s.mem x = some (.int i)) (h2 : rd s.mem y = some (.int j)) (k : Φ (.dat (.int (i - j))) s) : OpS K Zc (rI0 fun i j => .int (i - j)) x y s Φ := os_I0 h1 h2 (fun _ => .int _) k
theorem os_mod {i j : Int} (h1 : rd s.mem x = some (.int i)) (h2 : rd s.mem y = some (.int j)) (hc : 0 < j) (k : Φ (.dat (.int (i % j))) s) : OpS K Zc (rI (fun _ j => j ≠ 0) fun i j => .int (i.fmod j)) x y s Φ :=
  os_I h1 h2 (by omega) (fun _ => .int _) (by rw [Int.fmod_eq_emod_of_nonneg _ (by omega)]; exact k)
theorem os_div {i j : Int} (h1 : rd s.mem x = some (.int i)) (h2 : rd s.mem y = some (.int j)) (hc : 0 < j) (hb : j < 2 ^ 60) (k : Φ (.dat (.int (i / j))) s) : OpS K Zc (rI CDivW fun i j => .int (i / j)) x y s Φ :=
  os_I h1 h2 (wide_div hc (b := 60) (by omega) (by decide) (by decide)) (fun _ => .int _) k
theorem os_pow {i j : Int} (h1 : rd s.mem x = some (.int i)) (h2 : rd s.mem y = some (.int j)) (hc : CPow i j) (k : Φ (.dat (.int (i ^ j.toNat))) s) : OpS K Zc (rI CPow fun i j => .int (i ^ j.toNat)) x y s Φ :=
  os_I h1 h2 hc (fun _ => .int _) k
/-- what is left to know behind a turn, by places -/
def WkLs (k : Nat) : List SV → List SV → Prop
  | [], [] => True
  | a :: as, b :: bs => (b = .un ∨ (a = b ∧ ∀ j, b = .own j → j < k)) ∧ WkLs k as bs
  | _, _ => False
def WkMs : Mem → Mem → Prop
  | _, [] => True
  | a :: as, b :: bs => (b = none ∨ a = b) ∧ WkMs as bs
  | [], _ :: _ => False
theorem wkLs_len {k : Nat} : ∀ {a b : List SV}, WkLs k a b → b.length = a.length
  | [], [], _ => rfl
  | _ :: _, _ :: _, h => by simp [wkLs_len h.2]
  | [], _ :: _, h => h.elim
  | _ :: _, [], h => h.elim
theorem wkLs_get {k : Nat} : ∀ {a b : List SV} {i : Nat} {sv : SV}, WkLs k a b → b[i]? = some sv → sv = .un ∨ (a[i]? = some sv ∧ ∀ j, sv = .own j → j < k)
  | [], [], _, _, _, e => by simp at e
  | a :: _, b :: _, 0, sv, h, e => by
    simp at e
    subst e
    rcases h.1 with q | ⟨rfl, q⟩
    · exact .inl q
    · exact .inr ⟨rfl, q⟩
  | _ :: _, _ :: _, i + 1, sv, h, e => by
    have := wkLs_get (i := i) h.2 (by simpa using e)
    simpa using this
  | [], _ :: _, _, _, h, _ => h.elim
  | _ :: _, [], _, _, h, _ => h.elim
theorem wkMs_len : ∀ {a b : Mem}, WkMs a b → b.length ≤ a.length
  | _, [], _ => Nat.zero_le _
  | _ :: _, _ :: _, h => by simpa using wkMs_len h.2
  | [], _ :: _, h => h.elim
theorem wkMs_get : ∀ {a b : Mem} {i : Nat} {ds : D}, WkMs a b → b[i]? = some (some ds) → a[i]? = some (some ds)
  | _, [], _, _, _, e => by simp at e
  | a :: _, b :: _, 0, ds, h, e => by
    simp at e
    rcases h.1 with q | q
    · rw [q] at e; cases e
    · simp [q, e]
  | _ :: _, _ :: _, i + 1, ds, h, e => by
    have := wkMs_get (i := i) h.2 (by simpa using e)
    simpa using this
  | [], _ :: _, _, _, h, _ => h.elim
theorem Wk.of {s' : S} (h1 : WkLs s'.mem.length s.sl s'.sl) (h2 : WkMs s.mem s'.mem) : Wk s s' :=
  ⟨wkLs_len h1, fun i sv e => wkLs_get h1 e, wkMs_len h2, fun i ds e => wkMs_get h2 e⟩
theorem To.of {m : Nat} {I : S → Prop} (s' : S) (hI : I s') (h1 : WkLs s'.mem.length s.sl s'.sl) (h2 : WkMs s.mem s'.mem) (hn : m ≤ s'.mem.length) : To m I s := ⟨s', Wk.of h1 h2, hn, hI⟩
theorem ExS.imp {t : TS} {De' : DE} (h : ExS K Zc n t s De) (h1 : ∀ s, De.nx s → De'.nx s) (h2 : ∀ v m, De.rt v m → De'.rt v m) (h3 : ∀ s, De.bk s → De'.bk s) (h4 : ∀ s, De.ct s → De'.ct s) : ExS K Zc n t s De' :=
  fun ad H σ Dd I hn k1 k2 k3 k4 => h ad H σ Dd I hn (fun σ' ad' H' s' a b c => k1 σ' ad' H' s' (h1 _ a) b c) (fun v ad' H' rv m' a b c d => k2 v ad' H' rv m' (h2 _ _ a) b c d) (fun σ' ad' H' s' a b c => k3 σ' ad' H' s' (h3 _ a) b c) fun σ' ad' H' s' a b c => k4 σ' ad' H' s' (h4 _ a) b c
/-- a statement, then the rest from what is left to know -/
theorem ex_cut {t u : TS} (J : S → Prop) (h1 : ExS K Zc n t s { De with nx := To n J }) (h2 : ∀ s1, J s1 → n ≤ s1.mem.length → ExS K Zc n u s1 De) : ExS K Zc n (tSeq t u) s De :=
  ex_seq (h1.imp (fun s1 ⟨s2, w, hl, q⟩ => ex_wk w hl (h2 s2 q hl)) (fun _ _ q => q) (fun _ q => q) fun _ q => q)
/-- a comprehension whose element changes nothing -/
theorem ev_lcP {wi : TI} {te : TE} {i : Nat} (hi : IterS K Zc wi s fun items s1 => ∃ out : List D, out.length = items.length ∧ out.length ≤ 1000000 ∧
      (∀ (k : Nat) (d e : D) (m' : Mem), items[k]? = some d → out[k]? = some e → m' = s1.mem ++ [some (.list (out.take k))] →
        EvS K Zc te ⟨(s1.sl.set i .un).set i (.dat d), m'⟩ (asD fun y s4 => y = e ∧ Wk s4 ⟨s1.sl.set i .un, m'⟩)) ∧ Φ (.own s1.mem.length) ⟨s1.sl.set i .un, s1.mem ++ [some (.list out)]⟩) :
    EvS K Zc (tLc wi (gName i) tYes te [i]) s Φ := by
  refine NoI.keep (fun _ wNoI => ?_) ?_
  simp only [↓ NoI.wrOf wNoI (by
  clear wNoI
  refine ev_lc gw_name fun ad H σ R I p => hi ad H σ R I fun J ad' H' items s1 h I' F jok => p J ad' H' items s1 ?_ I' F jok
  obtain ⟨out, hl, hz, hs, hd⟩ := h
  refine ⟨fun k s => s = ⟨s1.sl.set i .un, s1.mem ++ [some (.list (out.take k))]⟩, by simp [wipeS], ?_, ?_⟩
  · rintro k d _ hk rfl hn
    have hk' : k < items.length := (List.getElem?_eq_some_iff.mp hk).1
    have he : out[k]? = some (out[k]'(by omega)) := List.getElem?_eq_getElem _
    refine g_name (tt_yes ⟨fun _ => ?_, fun h => by cases h⟩)
    refine (hs k d _ _ hk he rfl).imp ?_
    rintro sv s4 q
    have fin : ∀ y s4, (y = out[k]'(by omega) ∧ Wk s4 ⟨s1.sl.set i .un, s1.mem ++ [some (.list (out.take k))]⟩) →
        ∃ acc, s4.mem[s1.mem.length]? = some (some (.list acc)) ∧ acc.length < sizeLine ∧ To (s1.mem.length + 1) (fun s => s = ⟨s1.sl.set i .un, s1.mem ++ [some (.list (out.take (k + 1)))]⟩) ⟨wipeS s4.sl [i], s4.mem.set s1.mem.length (some (.list (acc ++ [y])))⟩ := by
      rintro y s4 ⟨rfl, w⟩
      have hm : s4.mem[s1.mem.length]? = some (some (.list (out.take k))) := w.mem _ _ (by simp)
      refine ⟨_, hm, ?_, _, ?_, ?_, rfl⟩
      · rw [List.length_take, sizeLine_eq]
        omega
      · refine ⟨by simpa [wipeS] using w.len, fun j sv e => ?_, ?_, fun j ds e => ?_⟩
        · have e : (s1.sl.set i SV.un)[j]? = some sv := e
          show sv = .un ∨ ((s4.sl.set i SV.un)[j]? = some sv ∧ _)
          by_cases hj : i = j
          · subst hj
            rw [List.getElem?_set] at e
            rw [if_pos rfl] at e
            split at e
            · cases e; exact .inl rfl
            · cases e
          · rcases w.sl j sv e with z | ⟨z1, z2⟩
            · exact .inl z
            · refine .inr ⟨by rw [List.getElem?_set_ne hj]; exact z1, ?_⟩
              intro j2 e2
              have := z2 j2 e2
              simpa using this
        · have := w.le
          simpa using this
        · have e : (s1.mem ++ [some (.list (out.take (k + 1)))])[j]? = some (some ds) := e
          show (s4.mem.set s1.mem.length _)[j]? = _
          by_cases hj : j = s1.mem.length
          · subst hj
            simp at e
            subst e
            rw [List.getElem?_set_self (List.getElem?_eq_some_iff.mp hm).1, List.take_add_one, he]
            rfl
          · rw [List.getElem?_set_ne fun z => hj z.symm]
            refine w.mem j ds ?_
            show (s1.mem ++ [some (.list (out.take k))])[j]? = some (some ds)
            by_cases h2 : j < s1.mem.length
            · rw [List.getElem?_append_left h2] at e ⊢; exact e
            · have := (List.getElem?_eq_some_iff.mp e).1
              simp at this
              omega
      · simp
    cases sv with
    | dat d => exact fin d s4 q
    | own j =>
      simp only [asD] at q ⊢
      split
      · rename_i ds e
        rw [e] at q
        exact fin _ _ q
      · rename_i h
        split at q
        · rename_i ds e
          exact absurd e (h ds)
        · exact q
    | ro _ => exact q.elim
    | rng _ _ => exact q.elim
    | exn _ _ _ => exact q.elim
    | un => exact q.elim
  · rintro _ rfl
    rw [show out.take items.length = out by rw [← hl, List.take_length]]
    simpa [wipeS] using hd
  )]
  intro _ hNoI
  simpa using (fun (_ : NoI.Sg) => hNoI) [5]
end
end SH

namespace SH
open PySem PySem.Spec PyProof.Rows L2
variable [WW]

/-! ### range objects -/
theorem cr_range1 {X : Cx} : CallR X (.type "range") (fun vs H Q => ∃ j, vs = [V.int j] ∧ ∀ p, H p = none → Q (.ref p) (upd H p (.rng 0 j))) := by
  refine NoI.keep (fun _ wNoI => ?_) ?_
  simp only [↓ NoI.wrOf wNoI (by
  clear wNoI
  intro pins s σ H vs us Q I r h
  obtain ⟨j, rfl, q⟩ := h
  obtain ⟨u1, rfl, rj⟩ := vals1 r
  obtain ⟨u, rfl⟩ := rj
  refine call_range_1 ⟨.ref s.heap.objs.size, upd H s.heap.objs.size (.rng 0 j), I.laid (t' := s.toks + 1 + 1) (fun b o e => Heap.get?_push_of_some _ e) (Nat.le_refl _) ?_, rfl, q _ (I.hok.fresh (Nat.le_refl _))⟩
  exact ⟨s.toks, u, s.toks + 1, Heap.get?_push_size _ rfl⟩
  )]
  intro _ hNoI
  simpa using (fun (_ : NoI.Sg) => hNoI) [5]
def rRng : List V → Hp → VK → Prop := fun vs H Q => (∃ j, vs = [V.int j] ∧ ∀ p, H p = none → Q (.ref p) (upd H p (.rng 0 j))) ∨ ∃ i j, vs = [V.int i, V.int j] ∧ ∀ p, H p = none → Q (.ref p) (upd H p (.rng i j))
theorem call_rng {X : Cx} : CallR X (.type "range") rRng := by
  intro pins s σ H vs us Q I r h
  rcases h with h | h
  · exact cr_range1 pins s σ H vs us Q I r h
  · exact cr_range2 pins s σ H vs us Q I r h
/-! sums -/
def upTo (lo hi : Int) : List Int := (List.range (hi - lo).toNat).map fun (i : Nat) => lo + (i : Int)
theorem preSum_get {ns : List Int} : ∀ n, n ≤ ns.length → preSum (fun i => ns[i]?.getD 0) n = (ns.take n).sum
  | 0, _ => rfl
  | n + 1, h => by
    show preSum _ n + _ = _
    rw [preSum_get n (by omega), List.take_add_one, List.sum_append]
    simp [List.getElem?_eq_getElem h]
def rSum (K : PySem.W.Frag) : List V → Hp → VK → Prop := fun xs H Q => (∃ p, ∃ ns : List Int, xs = [.ref p] ∧ (SqL K H p (ns.map V.int) ∨ SqT K H p (ns.map V.int)) ∧ Q (.int ns.sum) H) ∨
  ∃ p lo hi, xs = [.ref p] ∧ H p = some (.rng lo hi) ∧ (-(2 ^ 62) ≤ lo ∧ lo < 2 ^ 62 ∧ -(2 ^ 62) ≤ hi ∧ hi < 2 ^ 62) ∧ Q (.int (upTo lo hi).sum) H
theorem call_sumU {X : Cx} (hc : X.calm = true) : CallR X (.builtin "sum") (rSum X.K) := by
  refine NoI.keep (fun _ wNoI => ?_) ?_
  simp only [↓ NoI.wrOf wNoI (by
  clear wNoI
  intro pins s σ H vs us Q I r h
  have hh : X.A.in1.handled = none := I.ok.hd hc
  have intsH : ∀ {ns : List Int} {its : List Value}, Vals (ns.map V.int) its → ∀ (i : Nat) (v : Value), its.toArray[i]? = some v → ∃ t, v = .int (ns[i]?.getD 0) t := by
    intro ns its rv i v e
    have e : its[i]? = some v := by simpa using e
    have hl := rv.length
    have hi := (List.getElem?_eq_some_iff.mp e).1
    rw [← hl, List.length_map] at hi
    obtain ⟨w, hw, t, hw'⟩ := rv.get (i := i) (x := .int ns[i]) (by simp [hi])
    rw [e] at hw; cases hw
    exact ⟨t, by rw [hw', List.getElem?_eq_getElem hi]; rfl⟩
  rcases h with ⟨p, ns, rfl, hq, q⟩ | ⟨p, lo, hi, rfl, hq, hb, q⟩
  · rw [Vals.ref1 r]
    have tot : ∀ {its : List Value}, Vals (ns.map V.int) its → preSum (fun i => ns[i]?.getD 0) its.toArray.size = ns.sum := fun {its} rv => by
      have hl := rv.length
      rw [List.length_map] at hl
      rw [List.size_toArray, ← hl, preSum_get _ (Nat.le_refl _), List.take_length]
    rcases hq with hq | hq
    · obtain ⟨its, rv, pl, hz⟩ := I.list hq
      obtain ⟨o, ho, _⟩ := id pl.isList
      have lt := Heap.lt_size ho
      refine call_sum_walkG (wpAny_pyIter_list pl.isList ⟨_, _, _, _, _, _, _, rfl, Walks.list hh s.heap.objs.size p (Nat.ne_of_lt lt) its.toArray, ⟨⟨_, Heap.get?_push_size _ rfl, rfl, rfl⟩, pl.isList.push _⟩, fun b hb => ?_, intsH rv, fun h' tk t' kp => ?_⟩)
      · have hs := Heap.size_push s.heap ({ cls := .type "list_iterator", data := .fields #[.ref p, .int 0 0] } : Obj)
        show b < (s.heap.push _).objs.size
        rw [hs]
        rcases List.mem_cons.mp hb with rfl | hb
        · exact Nat.lt_succ_self _
        · rw [List.mem_singleton.mp hb]; exact Nat.lt_succ_of_lt lt
      · rw [tot rv]
        exact ⟨.int _, H, I.kept fun b o e => kp b o (fun hm => Nat.ne_of_lt (Heap.lt_size e) (List.mem_singleton.mp hm)) (Heap.get?_push_of_some _ e), ⟨_, rfl⟩, q⟩
    · obtain ⟨its, rv, pl, hz⟩ := I.tuple hq
      obtain ⟨o, ho, _⟩ := id pl
      have lt := Heap.lt_size ho
      refine call_sum_walkG (wpAny_pyIter_tuple pl ⟨_, _, _, _, _, _, _, rfl, Walks.tuple hh s.heap.objs.size p (Nat.ne_of_lt lt) its.toArray, ⟨⟨_, Heap.get?_push_size _ rfl, rfl, rfl⟩, pl.push _⟩, fun b hb => ?_, intsH rv, fun h' tk t' kp => ?_⟩)
      · have hs := Heap.size_push s.heap ({ cls := .type "tuple_iterator", data := .fields #[.ref p, .int 0 0] } : Obj)
        show b < (s.heap.push _).objs.size
        rw [hs]
        rcases List.mem_cons.mp hb with rfl | hb
        · exact Nat.lt_succ_self _
        · rw [List.mem_singleton.mp hb]; exact Nat.lt_succ_of_lt lt
      · rw [tot rv]
        exact ⟨.int _, H, I.kept fun b o e => kp b o (fun hm => Nat.ne_of_lt (Heap.lt_size e) (List.mem_singleton.mp hm)) (Heap.get?_push_of_some _ e), ⟨_, rfl⟩, q⟩
  · rw [Vals.ref1 r]
    obtain ⟨t1, t2, t3, ho⟩ := I.hok p _ hq
    obtain ⟨b1, b2, b3, b4⟩ := hb
    have hsz : Builtin.Range.rangeSize lo hi 1 = ((hi - lo).toNat : Int) := by rw [rangeSize_one]; split <;> omega
    refine call_sum_walkG (wpAny_pyIter_range ho (small_one b1 b2 b3 b4) ⟨_, _, _, _, _, _, (fun i => lo + (i : Int)), rfl, Walks.range hh s.heap.objs.size lo 1 (hi - lo).toNat, ?_, fun b hb => ?_, fun i v ⟨t, e⟩ => ⟨t, by simpa using e⟩, fun h' tk t' kp => ?_⟩)
    · show IsRangeIter _ _ _ _ _
      rw [hsz]
      simp only [Int.natCast_zero, Int.zero_mul, Int.add_zero, Int.sub_zero]
      exact Heap.get?_push_size _ rfl
    · have hs := Heap.size_push s.heap ({ cls := .type "range_iterator", data := .fields #[rawInt lo, rawInt (Builtin.Range.rangeSize lo hi 1), rawInt 1] } : Obj)
      rw [List.mem_singleton.mp hb]
      show _ < (s.heap.push _).objs.size
      rw [hs]; exact Nat.lt_succ_self _
    · have e : preSum (fun i => lo + (i : Int)) (hi - lo).toNat = (upTo lo hi).sum := by
        unfold upTo
        generalize (hi - lo).toNat = n
        induction n with
        | zero => rfl
        | succ n ih =>
          show preSum _ n + _ = _
          rw [ih, List.range_succ, List.map_append, List.sum_append]
          simp
      rw [e]
      exact ⟨.int _, H, I.kept fun b o e => kp b o (fun hm => Nat.ne_of_lt (Heap.lt_size e) (List.mem_singleton.mp hm)) (Heap.get?_push_of_some _ e), ⟨_, rfl⟩, q⟩
  )]
  intro _ hNoI
  simpa using (fun (_ : NoI.Sg) => hNoI) [5]
end SH

set_option maxHeartbeats 1000000
/-! dict(zip(a, b)) of two tuples -/
namespace SH
open PySem PySem.Spec PyProof.Rows L2
variable [WW]
section
variable {prog : Program} {w : World} {A : Around} {E : Value → Shared → Prop} {s : Shared}
/-- a turn, while the tuple that was handed out last still stands -/
theorem zt_item {z TI TO T i1 i2 l1 l2 : Addr} {f : Bool} {oT : Obj} {k : Nat} {xs ys : Array Value} {x y : Value} {Q : Option Value → Shared → Prop} (D : ZipApart z TI TO i1 i2 l1 l2)
    (hz : IsZipHeld s.heap z TI TO T f) (hT : s.heap.get? T = some oT) (hTI : PySem.IsPair s.heap TI (.ref i1) (.ref i2)) (h1 : s.heap.IsTupleIter i1 l1 k) (h2 : s.heap.IsTupleIter i2 l2 k)
    (hl1 : s.heap.IsTuple l1 xs) (hl2 : s.heap.IsTuple l2 ys) (hx : xs[k]? = some x) (hy : ys[k]? = some y)
    (hQ : ∀ h', IsZipHeld h' z TI TO T true → h'.IsTupleIter i1 l1 (k + 1) → h'.IsTupleIter i2 l2 (k + 1) → PySem.IsPair h' s.heap.objs.size x y →
      (∀ c o, c ≠ z → c ≠ i1 → c ≠ i2 → s.heap.get? c = some o → h'.get? c = some o) → Q (some (.ref s.heap.objs.size)) { s with heap := h' }) :
    wpAny (model prog w) A (pyNext (.ref z)) Q E s := by
  refine NoI.keep (fun _ wNoI => ?_) ?_
  simp only [↓ NoI.wrOf wNoI (by
  clear wNoI
  have ty : s.TypeIs (.ref z) "zip" := ⟨_, hz, rfl⟩
  unfold pyNext
  refine wpAny_bind (wpAny_attempt (wpAny_callSpecial?_slot (name := Str.ofString "__next__") ty F.slot_zip_next (wpAny_call_entry F.slot_zip_next ty F.entry_zip_next ?_ (F.args_zip_next_1 _))))
  show wpAny _ _ (field (.ref z) 2 >>= _) _ _ _
  refine wpAny_bind (wpAny_field hz rfl (x := .bool false) rfl ?_)
  show wpAny _ _ (field (.ref z) 3 >>= _) _ _ _
  refine wpAny_bind (wpAny_field hz rfl (x := .ref TI) rfl (wpAny_bind (wpAny_seqItems hTI rfl ?_)))
  show wpAny _ _ (Builtin.SmallTypes.ownedTupleIsFree (.ref z) >>= _) _ _ _
  refine wpAny_bind (wpAny_tupleHeld_zip hz hT fun g1 z1 b1 => ?_)
  simp only [Bool.false_eq_true, if_false]
  refine wpAny_bind ?_
  rw [← Array.forIn_toList]
  simp only [List.forIn_cons, List.forIn_nil]
  refine wpAny_bind (wpAny_bind (wpAny_holding ?_))
  show wpAny _ _ (Builtin.SmallTypes.nextOf (.ref i1) >>= _) _ _ _
  refine wpAny_bind (RZ.nextOf_tuple_item (s := { s with heap := g1 }) (h1.extBut b1.extBut D.i1z) (hl1.extBut b1.extBut D.l1z) hx fun g2 t1 b2 => wpAny_pure (wpAny_pure ?_))
  refine wpAny_bind (wpAny_bind (wpAny_holding ?_))
  show wpAny _ _ (Builtin.SmallTypes.nextOf (.ref i2) >>= _) _ _ _
  refine wpAny_bind (RZ.nextOf_tuple_item (s := { s with heap := g2 }) ((h2.extBut b1.extBut D.i2z).extBut b2.extBut D.i12.symm) ((hl2.extBut b1.extBut D.l2z).extBut b2.extBut D.l2i1) hy fun g3 t2 b3 => wpAny_pure (wpAny_pure (wpAny_pure ?_)))
  show wpAny _ _ (newTuple [x, y] >>= _) _ _ _
  refine wpAny_bind (wpAny_newTuple (wpAny_pure ⟨_, rfl, wpAny_pure ?_⟩))
  have sz : g3.objs.size = s.heap.objs.size := by rw [b3.1, b2.1, b1.1]
  have hk : ∀ c o, c ≠ z → c ≠ i1 → c ≠ i2 → s.heap.get? c = some o → g3.get? c = some o := fun c o c1 c2 c3 e => b3.extBut _ _ c3 (b2.extBut _ _ c2 (b1.extBut _ _ c1 e))
  have zz : IsZipHeld g3 z TI TO T true := b3.extBut _ _ D.i2z.symm (b2.extBut _ _ D.i1z.symm z1)
  have t1' : g3.IsTupleIter i1 l1 (k + 1) := t1.extBut b3.extBut D.i12
  have hp : PySem.IsPair (g3.push { cls := .type "tuple", data := .seq #[x, y] }) g3.objs.size x y := Heap.get?_push_size _ rfl
  show Q (some (.ref g3.objs.size)) _
  rw [sz] at hp ⊢
  exact hQ _ (Heap.get?_push_of_some _ zz) (t1'.at fun o e => Heap.get?_push_of_some _ e) (t2.at fun o e => Heap.get?_push_of_some _ e) hp fun c o c1 c2 c3 e => Heap.get?_push_of_some _ (hk c o c1 c2 c3 e)
  )]
  intro _ hNoI
  simpa using (fun (_ : NoI.Sg) => hNoI) [5]
theorem zt_end {z TI TO T i1 i2 l1 l2 : Addr} {f : Bool} {oT : Obj} {k : Nat} {xs ys : Array Value} {Q : Option Value → Shared → Prop} (hh : A.handled = none) (D : ZipApart z TI TO i1 i2 l1 l2)
    (hz : IsZipHeld s.heap z TI TO T f) (hT : s.heap.get? T = some oT) (hTI : PySem.IsPair s.heap TI (.ref i1) (.ref i2)) (h1 : s.heap.IsTupleIter i1 l1 k) (h2 : s.heap.IsTupleIter i2 l2 k)
    (hl1 : s.heap.IsTuple l1 xs) (hl2 : s.heap.IsTuple l2 ys) (hx : xs[k]? = none)
    (hQ : ∀ h', (∀ c o, c ≠ z → c ≠ i1 → c ≠ i2 → s.heap.get? c = some o → h'.get? c = some o) → Q none { s with heap := h' }) : wpAny (model prog w) A (pyNext (.ref z)) Q E s := by
  refine NoI.keep (fun _ wNoI => ?_) ?_
  simp only [↓ NoI.wrOf wNoI (by
  clear wNoI
  have ty : s.TypeIs (.ref z) "zip" := ⟨_, hz, rfl⟩
  unfold pyNext
  refine wpAny_bind (wpAny_attempt (wpAny_callSpecial?_slot (name := Str.ofString "__next__") ty F.slot_zip_next (wpAny_call_entry F.slot_zip_next ty F.entry_zip_next ?_ (F.args_zip_next_1 _))))
  show wpAny _ _ (field (.ref z) 2 >>= _) _ _ _
  refine wpAny_bind (wpAny_field hz rfl (x := .bool false) rfl ?_)
  show wpAny _ _ (field (.ref z) 3 >>= _) _ _ _
  refine wpAny_bind (wpAny_field hz rfl (x := .ref TI) rfl (wpAny_bind (wpAny_seqItems hTI rfl ?_)))
  show wpAny _ _ (Builtin.SmallTypes.ownedTupleIsFree (.ref z) >>= _) _ _ _
  refine wpAny_bind (wpAny_tupleHeld_zip hz hT fun g1 z1 b1 => ?_)
  simp only [Bool.false_eq_true, if_false]
  refine wpAny_bind ?_
  rw [← Array.forIn_toList]
  simp only [List.forIn_cons, List.forIn_nil]
  refine wpAny_bind (wpAny_bind (wpAny_holding ?_))
  show wpAny _ _ (Builtin.SmallTypes.nextOf (.ref i1) >>= _) _ _ _
  refine wpAny_bind (RZ.nextOf_tuple_end (s := { s with heap := g1 }) hh (h1.extBut b1.extBut D.i1z) (hl1.extBut b1.extBut D.l1z) hx fun g2 e b2 he => ?_)
  obtain ⟨o, ho, hc⟩ := he
  refine wpAny_bind (wpAny_isInstance (T := "StopIteration") (b := true) ⟨o, ho, hc⟩ isSubtype_stop (wpAny_pure (hQ _ fun c o c1 c2 _ x => b2 _ _ c2 (b1.extBut _ _ c1 x))))
  )]
  intro _ hNoI
  simpa using (fun (_ : NoI.Sg) => hNoI) [5]
theorem zt_arg {prog : Program} {w : World} {z TI TO i1 i2 l1 l2 : Addr} (D : ZipApart z TI TO i1 i2 l1 l2) (xs ys : Array Value) (hl : xs.size = ys.size) :
    PairArg prog w "zip" z [z, TI, TO, i1, i2, l1, l2] [z, TO, i1, i2] xs.size (fun i k v => xs[i]? = some k ∧ ys[i]? = some v)
      (fun h => PySem.IsZip h z TI TO .none ∧ PySem.IsPair h TI (.ref i1) (.ref i2) ∧ (∃ a b, PySem.IsPair h TO a b) ∧ h.IsTupleIter i1 l1 0 ∧ h.IsTupleIter i2 l2 0 ∧ h.IsTuple l1 xs ∧ h.IsTuple l2 ys) where
  type := fun s ok => ⟨_, ok.1, rfl⟩
  notDict := by decide
  keep := fun h h' ⟨a1, a2, ⟨a, b, a3⟩, a4, a5, a6, a7⟩ k => ⟨k _ _ a1, k _ _ a2, ⟨a, b, k _ _ a3⟩, a4.at fun o => k _ o, a5.at fun o => k _ o, a6.at fun o => k _ o, a7.at fun o => k _ o⟩
  there := fun h ⟨a1, a2, ⟨a, b, a3⟩, ⟨o4, a4, _⟩, ⟨o5, a5, _⟩, ⟨o6, a6, _⟩, ⟨o7, a7, _⟩⟩ c hc => by
    simp only [List.mem_cons, List.not_mem_nil, or_false] at hc
    rcases hc with rfl | rfl | rfl | rfl | rfl | rfl | rfl <;> exact ⟨_, by assumption⟩
  sub := fun c hc => by
    simp only [List.mem_cons, List.not_mem_nil, or_false] at hc ⊢
    rcases hc with q | q | q | q <;> simp [q]
  noKeys := fun A s Q E hA ok h => getAttrOr_miss_zip ok.1 rfl rfl rfl zip_no_keys (by decide +kernel) hA h
  iter := fun A s d Q E hA ok hd hdf h => by
    obtain ⟨a1, a2, ⟨a, b, a3⟩, a4, a5, a6, a7⟩ := ok
    simp only [List.mem_cons, List.not_mem_nil, or_false, not_or] at hdf
    obtain ⟨d1, d2, d3, d4, d5, d6, d7⟩ := hdf
    refine wpAny_pyIter_zip a1 (h z [z, TO, i1, i2] (fun i h => PySem.IsPair h TI (.ref i1) (.ref i2) ∧ h.IsTupleIter i1 l1 i ∧ h.IsTupleIter i2 l2 i ∧ h.IsTuple l1 xs ∧ h.IsTuple l2 ys ∧
      ((PySem.IsZip h z TI TO .none ∧ ∃ a b, PySem.IsPair h TO a b) ∨ ∃ T f oT, IsZipHeld h z TI TO T f ∧ h.get? T = some oT ∧ T ≠ z ∧ T ≠ i1 ∧ T ≠ i2 ∧ T ≠ d)) s.heap s.toks ?_
      ⟨a2, a4, a5, a6, a7, .inl ⟨a1, a, b, a3⟩⟩ (fun _ _ e => e) fun c hc => .inl hc)
    refine { off := fun hc => ?_, frame := fun i g g' st k => ?_, item := fun i t Q2 E2 hi st hdt q => ?_, done := fun t Q2 E2 st q => ?_ }
    · simp only [List.mem_cons, List.not_mem_nil, or_false] at hc
      rcases hc with e | e | e | e
      · exact d1 e
      · exact d3 e
      · exact d4 e
      · exact d5 e
    · obtain ⟨c1, c2, c3, c4, c5, c6⟩ := st
      refine ⟨k _ _ (Ne.symm d2) c1, c2.at fun o => k _ o (Ne.symm d4), c3.at fun o => k _ o (Ne.symm d5), c4.at fun o => k _ o (Ne.symm d6), c5.at fun o => k _ o (Ne.symm d7), ?_⟩
      rcases c6 with ⟨c6, x, y, c7⟩ | ⟨T, f, o, c6, c7, r1, r2, r3, r4⟩
      · exact .inl ⟨k _ _ (Ne.symm d1) c6, x, y, k _ _ (Ne.symm d3) c7⟩
      · exact .inr ⟨T, f, o, k _ _ (Ne.symm d1) c6, k _ _ r4 c7, r1, r2, r3, r4⟩
    · obtain ⟨c1, c2, c3, c4, c5, c6⟩ := st
      have ex := Array.getElem?_eq_getElem hi
      have ey := Array.getElem?_eq_getElem (show i < ys.size by omega)
      have ne : ∀ {c o}, t.heap.get? c = some o → t.heap.objs.size ≠ c := fun e => Nat.ne_of_gt (Heap.lt_size e)
      have n1 : t.heap.objs.size ≠ i1 := let ⟨_, e, _⟩ := c2; ne e
      have n2 : t.heap.objs.size ≠ i2 := let ⟨_, e, _⟩ := c3; ne e
      rcases c6 with ⟨c6, x, y, c7⟩ | ⟨T, f, o, c6, c7, r1, r2, r3, r4⟩
      · refine RZ.pyNext_zipT_item D c6 c1 c7 c2 c3 c4 c5 ex ey fun g e1 e2 e3 e4 e5 e6 k => ?_
        exact q _ _ _ g t.toks ⟨ex, ey⟩ (.inl ⟨_, e5, rfl, _, rfl⟩)
          ⟨k _ _ D.TIz D.TITO D.TIi1 D.TIi2 c1, e3, e4, c4.at fun o e => k _ o D.l1z D.l1TO D.l1i1 D.l1i2 e, c5.at fun o e => k _ o D.l2z D.l2TO D.l2i1 D.l2i2 e, .inr ⟨_, false, _, e1, e5, ne c6, n1, n2, Nat.ne_of_gt hdt⟩⟩
          fun c o hc e => k c o (fun x => hc (by simp [x])) (fun x => hc (by simp [x])) (fun x => hc (by simp [x])) (fun x => hc (by simp [x])) e
      · refine zt_item D c6 c7 c1 c2 c3 c4 c5 ex ey fun g e1 e3 e4 e5 k => ?_
        exact q _ _ _ g t.toks ⟨ex, ey⟩ (.inl ⟨_, e5, rfl, _, rfl⟩)
          ⟨k _ _ D.TIz D.TIi1 D.TIi2 c1, e3, e4, c4.at fun o e => k _ o D.l1z D.l1i1 D.l1i2 e, c5.at fun o e => k _ o D.l2z D.l2i1 D.l2i2 e, .inr ⟨T, true, o, e1, k _ _ r1 r2 r3 c7, r1, r2, r3, r4⟩⟩
          fun c o hc e => k c o (fun x => hc (by simp [x])) (fun x => hc (by simp [x])) (fun x => hc (by simp [x])) e
    · obtain ⟨c1, c2, c3, c4, c5, c6⟩ := st
      have hend : xs[xs.size]? = none := by simp
      rcases c6 with ⟨c6, x, y, c7⟩ | ⟨T, f, o, c6, c7, r1, r2, r3, r4⟩
      · exact RZ.pyNext_zipT_end hA D c6 c1 c7 c2 c3 c4 c5 (.inl hend) fun g k => q g t.toks fun c o hc e => k c o (fun x => hc (by simp [x])) (fun x => hc (by simp [x])) (fun x => hc (by simp [x])) (fun x => hc (by simp [x])) e
      · exact zt_end hA D c6 c7 c1 c2 c3 c4 c5 hend fun g k => q g t.toks fun c o hc e => k c o (fun x => hc (by simp [x])) (fun x => hc (by simp [x])) (fun x => hc (by simp [x])) e
end
/-- dict(zip(a, b)) -/
def tDictZip (K : PySem.W.Frag) (ta : TA) : TE := fun σ H Q => ta σ H fun vs H1 => ∃ (a b : Addr) (ks : List Key) (ys : List V), vs = [.ref a, .ref b] ∧ SqT K H1 a (ks.map kV) ∧ SqT K H1 b ys ∧ ks.length = ys.length ∧ ks.Nodup ∧
  ∀ p, H1 p = none → Q (.ref p) (upd H1 p (.dK (ks.zip ys)))
theorem kv_zip : ∀ {ks : List Key} {ys : List V} {us : List Value}, ks.length = ys.length → Vals ys us → KV (ks.zip ys) (ks.zip us)
  | [], _, us, _, _ => .nil
  | k :: ks, [], us, h, _ => by simp at h
  | k :: ks, y :: ys, _, h, .cons r rs => .cons ⟨rfl, r⟩ (kv_zip (by simpa using h) rs)
theorem pe_dictZip {X : Cx} {e e2 : Expr} {ta : TA} {p p2 pos pos2 : Pos} (hc : X.calm = true) (hg : Gl X "dict") (hm : X.mg "dict" = none) (hg2 : Gl X "zip") (hm2 : X.mg "zip" = none) (ha : PA X [e, e2] ta)
    (hs : starEach [e, e2] X.env = (false, eval e X.env) :: starEach [e2] X.env := by rfl) (hpl : (backTo pos2 (starEach [e2] X.env)).any (·.1) = false := by rfl)
    (hs2 : starEach [.Call (.Name "zip" p2) [e, e2] [] pos2] X.env = [(false, eval (.Call (.Name "zip" p2) [e, e2] [] pos2) X.env)] := by rfl) :
    PE X (.Call (.Name "dict" p) [.Call (.Name "zip" p2) [e, e2] [] pos2] [] pos) (tDictZip X.K ta) := by
  refine NoI.keep (fun _ wNoI => ?_) ?_
  simp only [↓ NoI.wrOf wNoI (by
  clear wNoI
  refine ⟨fun pins s σ H Q I h => ?_⟩
  refine wpAny_Call_Name_kw (ld_blt I hg hm PyProof.Rows.boot_dict ?_)
  refine PyProof.Rows.callWith_type1 ?_ hs2 (by rfl)
  rw [hs2]
  refine Calls.spliced_cons (Call_ (ld_blt I hg2 hm2 PyProof.Rows.boot_zip (PyProof.Rows.callWith_type1 (thn (ha.run pos2 pins s σ H _ I h) fun us s1 ⟨vs, H1, I1, r1, q1⟩ => ?_) hs hpl)))
  obtain ⟨a, b, ks, ys, rfl, hqx, hqy, hl, hn, q⟩ := q1
  cases r1 with
  | cons r rr =>
    cases rr with
    | cons r' rr =>
      cases rr
      cases r
      cases r'
      obtain ⟨its, rv, p1, z1⟩ := I1.tuple hqx
      obtain ⟨its2, rv2, p2, z2⟩ := I1.tuple hqy
      obtain ⟨o1, ho1, _⟩ := id p1
      obtain ⟨o2, ho2, _⟩ := id p2
      have l1 := rv.length
      have l2 := rv2.length
      rw [List.length_map] at l1
      refine RZ.call_zipT (show s1.heap.IsTuple a its.toArray from p1) (show s1.heap.IsTuple b its2.toArray from p2) fun h' hz hTI hTO h1 h2 hsz hk => Calls.spliced_nil ?_
      have ls : its.toArray.size = its2.toArray.size := by rw [List.size_toArray, List.size_toArray]; omega
      refine PySem.call_dict_pairs (knd := mixKind X.prog X.w) (kvs := ks.zip its2) (zt_arg (PySem.W.ktu_apart s1.heap.objs.size a b (Heap.lt_size ho1) (Heap.lt_size ho2)) its.toArray its2.toArray ls) (I1.ok.hd hc)
        ⟨hz, hTI, ⟨_, _, hTO⟩, h1, h2, (show s1.heap.IsTuple a its.toArray from p1).at fun o e => hk _ o e, (show s1.heap.IsTuple b its2.toArray from p2).at fun o e => hk _ o e⟩ ⟨?_, fun i k v hr => ?_⟩ ?_ fun g tk hd kp => ?_
      · rw [List.length_zip, List.size_toArray]; omega
      · obtain ⟨e1, e2⟩ := hr
        have e1 : its[i]? = some k := by simpa using e1
        have e2 : its2[i]? = some v := by simpa using e2
        have hi : i < ks.length := by have := (List.getElem?_eq_some_iff.mp e1).1; omega
        obtain ⟨u, hu, ru⟩ := rv.get (i := i) (x := kV ks[i]) (by simp [hi])
        rw [e1] at hu; cases hu
        refine ⟨ks[i], ?_, kV_is ru⟩
        rw [List.getElem?_zip_eq_some]
        exact ⟨List.getElem?_eq_getElem hi, e2⟩
      · rw [List.size_toArray, ← l1, ← List.length_map (f := kV)]; exact z1
      · rw [merged_nil_of_nodup _ (by rw [List.map_fst_zip (by omega)]; exact hn)] at hd
        have I2 : Inv X pins σ H1 { s1 with heap := h' } := I1.kept (t' := s1.toks) hk
        have hm0 : (h'.objs.size == sysModules) = false := beq_eq_false_iff_ne.mpr (Nat.ne_of_gt I2.big)
        have hf : H1 h'.objs.size = none := I2.hok.fresh (Nat.le_refl _)
        have old : ∀ b o, s1.heap.get? b = some o → g.get? b = some o := fun c o e => kp c o (fun hcm => by
          have := Heap.lt_size e
          simp only [List.mem_cons, List.not_mem_nil, or_false] at hcm
          rcases hcm with rfl | rfl | rfl | rfl
          · exact absurd this (Nat.not_lt.mpr (Nat.le_add_right _ _))
          · exact absurd this (Nat.not_lt.mpr (Nat.le_add_right _ _))
          · exact absurd this (Nat.lt_irrefl _)
          · exact absurd this (Nat.not_lt.mpr (Nat.le_add_right _ _))) (hk _ _ e)
        have le : s1.heap.objs.size ≤ h'.objs.size := by rw [hsz]; exact Nat.le_add_right _ _
        refine ⟨.ref h'.objs.size, upd H1 h'.objs.size (.dK (ks.zip ys)), I1.laid (t' := tk) old le
          (show ObjOk X.prog X.w _ _ _ (.dK (ks.zip ys)) from ⟨?_, hm0, ks.zip its2, kv_zip hl rv2, hd⟩), rfl, q _ hf⟩
        have z3 : ks.length ≤ sizeLine := by rw [← List.length_map (f := kV)]; exact z1
        rw [List.length_zip]
        exact Nat.le_trans (Nat.min_le_left _ _) z3
  )]
  intro _ hNoI
  simpa using (fun (_ : NoI.Sg) => hNoI) [5]
end SH

namespace SH
open PySem PySem.Spec PyProof.Rows L2
variable [WW]
section
variable {K : PySem.W.Frag} {Zc : Addr → Prop} {s : S} {x y : SV} {Φ : SV → S → Prop} {n : Nat} {De : DE}
/-! ### ranges -/
theorem cb_rng1 {j : Int} (h1 : rd s.mem x = some (.int j)) (k : Φ (.rng 0 j) s) : CbS K Zc rRng [x] s Φ := by
  refine NoI.keep (fun _ wNoI => ?_) ?_
  simp only [↓ NoI.wrOf wNoI (by
  clear wNoI
  intro ad H σ vs Q I r p
  obtain ⟨v, rfl, r1⟩ := vrs1 r
  exact .inl ⟨j, by rw [rd_int I.mr r1 h1], fun a ha => p _ ad _ _ s k (I.newT ha) (.newT ha) ⟨a, rfl, I.mr.newT_at ha⟩⟩
  )]
  intro _ hNoI
  simpa using (fun (_ : NoI.Sg) => hNoI) [5]
theorem cb_rng2 {i j : Int} (h1 : rd s.mem x = some (.int i)) (h2 : rd s.mem y = some (.int j)) (k : Φ (.rng i j) s) : CbS K Zc rRng [x, y] s Φ := by
  refine NoI.keep (fun _ wNoI => ?_) ?_
  simp only [↓ NoI.wrOf wNoI (by
  clear wNoI
  intro ad H σ vs Q I r p
  obtain ⟨v, u, rfl, r1, r2⟩ := vrs2 r
  exact .inr ⟨i, j, by rw [rd_int I.mr r1 h1, rd_int I.mr r2 h2], fun a ha => p _ ad _ _ s k (I.newT ha) (.newT ha) ⟨a, rfl, I.mr.newT_at ha⟩⟩
  )]
  intro _ hNoI
  simpa using (fun (_ : NoI.Sg) => hNoI) [5]
theorem cb_sumL {ns : List Int} (h1 : rd s.mem x = some (.list (ns.map PyData.int))) (k : Φ (.dat (.int ns.sum)) s) : CbS K Zc (rSum K) [x] s Φ := by
  refine NoI.keep (fun _ wNoI => ?_) ?_
  simp only [↓ NoI.wrOf wNoI (by
  clear wNoI
  intro ad H σ vs Q I r p
  obtain ⟨v, rfl, r1⟩ := vrs1 r
  obtain ⟨a, us, rfl, e1, d1⟩ := rd_lst I.mr r1 h1
  rw [dpAll_ints d1] at e1
  exact .inl ⟨a, ns, rfl, .inl (SqL.of e1), p.val I k (sv := .dat _) (.int _)⟩
  )]
  intro _ hNoI
  simpa using (fun (_ : NoI.Sg) => hNoI) [5]
/-- list(x): of a list, a tuple, a range -/
def rListW (K : PySem.W.Frag) : List V → Hp → VK → Prop := fun xs H Q => rListU K xs H Q ∨ ∃ p lo hi, xs = [.ref p] ∧ H p = some (.rng lo hi) ∧ (-(2 ^ 62) ≤ lo ∧ lo < 2 ^ 62 ∧ -(2 ^ 62) ≤ hi ∧ hi < 2 ^ 62) ∧ hi - lo ≤ 2 ^ 24 ∧
  ∀ l, H l = none → Q (.ref l) (upd H l (.lst ((upTo lo hi).map V.int)))
theorem upTo_len (lo hi : Int) : (upTo lo hi).length = (hi - lo).toNat := by simp [upTo]
theorem vals_of_get : ∀ {xs : List V} {us : List Value}, xs.length = us.length → (∀ (i : Nat) (x : V) (u : Value), xs[i]? = some x → us[i]? = some u → RelV x u) → Vals xs us
  | [], [], _, _ => .nil
  | x :: xs, u :: us, h, r => .cons (r 0 x u rfl rfl) (vals_of_get (by simpa using h) fun i y w e1 e2 => r (i + 1) y w (by simpa using e1) (by simpa using e2))
  | [], _ :: _, h, _ => by simp at h
  | _ :: _, [], h, _ => by simp at h
theorem call_listW {X : Cx} (hc : X.calm = true) : CallR X (.type "list") (rListW X.K) := by
  refine NoI.keep (fun _ wNoI => ?_) ?_
  simp only [↓ NoI.wrOf wNoI (by
  clear wNoI
  intro pins s σ H vs us Q I r h
  rcases h with h | ⟨p, lo, hi, rfl, hq, ⟨b1, b2, b3, b4⟩, hz, q⟩
  · exact call_list_of pins s σ H vs us Q I r h
  · rw [Vals.ref1 r]
    obtain ⟨t1, t2, t3, ho⟩ := I.hok p _ hq
    have hsz : Builtin.Range.rangeSize lo hi 1 = ((hi - lo).toNat : Int) := by rw [rangeSize_one]; split <;> omega
    refine call_list_range (I.ok.hd hc) ho (small_one b1 b2 b3 b4) hsz (by omega) fun h' tk acc c kp hS hacc => ?_
    have hl : acc.size = (hi - lo).toNat := hacc.1
    have rv : Vals ((upTo lo hi).map V.int) acc.toList := by
      refine vals_of_get (by rw [List.length_map, upTo_len, Array.length_toList, hl]) fun i x u e1 e2 => ?_
      obtain ⟨t, rfl⟩ := hacc.2 i u (by simpa using e2)
      simp only [upTo, List.map_map, List.getElem?_map, Option.map_eq_some_iff] at e1
      obtain ⟨j, e3, rfl⟩ := e1
      have : j = i := by
        have := (List.getElem?_eq_some_iff.mp e3).2
        rw [List.getElem_range] at this; exact this.symm
      subst this
      exact ⟨t, by simp⟩
    refine ⟨.ref s.heap.objs.size, _, I.laid (t' := tk) (o := .lst ((upTo lo hi).map V.int)) kp (Nat.le_refl _) (show ObjOk X.prog X.w _ h' _ (.lst _) from ⟨?_, acc.toList, c, rv, by rw [Array.toArray_toList]; exact hS⟩), rfl, q _ (I.hok.fresh (Nat.le_refl _))⟩
    rw [List.length_map, upTo_len, sizeLine_eq]
    omega
  )]
  intro _ hNoI
  simpa using (fun (_ : NoI.Sg) => hNoI) [5]
theorem cb_listWL {ds : List D} (h1 : rd s.mem x = some (.list ds)) (k : Φ (.own s.mem.length) ⟨s.sl, s.mem ++ [some (.list ds)]⟩) : CbS K Zc (rListW K) [x] s Φ := fun ad H σ vs Q I r p => .inl (cb_listL h1 k ad H σ vs Q I r p)
theorem cb_listWT {ds : List D} (h1 : rd s.mem x = some (.tuple ds)) (k : Φ (.own s.mem.length) ⟨s.sl, s.mem ++ [some (.list ds)]⟩) : CbS K Zc (rListW K) [x] s Φ := fun ad H σ vs Q I r p => .inl (cb_listT h1 k ad H σ vs Q I r p)
theorem dvs_ints {H : Hp} : ∀ ns : List Int, DVs K H (ns.map V.int) (ns.map PyData.int)
  | [] => .nil
  | n :: ns => .cons (.int n) (dvs_ints ns)
theorem dvs_strs {H : Hp} : ∀ ns : List Str, DVs K H (ns.map V.str) (ns.map PyData.str)
  | [] => .nil
  | n :: ns => .cons (.str n) (dvs_strs ns)
theorem cb_listWR {lo hi : Int} (h1 : x = .rng lo hi) (hb : -(2 ^ 62) ≤ lo ∧ lo < 2 ^ 62 ∧ -(2 ^ 62) ≤ hi ∧ hi < 2 ^ 62) (hz : hi - lo ≤ 2 ^ 24) (k : Φ (.own s.mem.length) ⟨s.sl, s.mem ++ [some (.list ((upTo lo hi).map PyData.int))]⟩) : CbS K Zc (rListW K) [x] s Φ := by
  refine NoI.keep (fun _ wNoI => ?_) ?_
  simp only [↓ NoI.wrOf wNoI (by
  clear wNoI
  intro ad H σ vs Q I r p
  obtain ⟨v, rfl, r1⟩ := vrs1 r
  subst h1
  obtain ⟨a, rfl, e1⟩ := r1
  exact .inr ⟨a, lo, hi, rfl, (Fz_inv e1).2, hb, hz, fun l hl => p.lst I k hl (dvs_ints _)⟩
  )]
  intro _ hNoI
  simpa using (fun (_ : NoI.Sg) => hNoI) [5]
/-! ### sorted, of strings or of ints -/
def rSortU (K : PySem.W.Frag) : List V → Hp → VK → Prop := fun xs H Q => rSortedS K xs H Q ∨ rSorted K xs H Q
theorem call_sortU {X : Cx} : CallR X (.builtin "sorted") (rSortU X.K) := by
  intro pins s σ H vs us Q I r h
  rcases h with h | h
  · exact cr_sortedS pins s σ H vs us Q I r h
  · exact cr_sorted pins s σ H vs us Q I r h
theorem cb_sortS {xs : List Str} (h1 : rd s.mem x = some (.list (xs.map PyData.str))) (hz : xs.length < 64) (k : ∀ ys : List Str, ys.Perm xs → sortedS ys = true → Φ (.own s.mem.length) ⟨s.sl, s.mem ++ [some (.list (ys.map PyData.str))]⟩) : CbS K Zc (rSortU K) [x] s Φ := by
  refine NoI.keep (fun _ wNoI => ?_) ?_
  simp only [↓ NoI.wrOf wNoI (by
  clear wNoI
  intro ad H σ vs Q I r p
  obtain ⟨v, rfl, r1⟩ := vrs1 r
  obtain ⟨a, us, rfl, e1, d1⟩ := rd_lst I.mr r1 h1
  rw [dpAll_strs d1] at e1
  exact .inl ⟨a, xs, rfl, SqL.of e1, hz, fun ys l hp hs hl => p.lst I (k ys hp hs) hl (dvs_strs _)⟩
  )]
  intro _ hNoI
  simpa using (fun (_ : NoI.Sg) => hNoI) [5]
theorem cb_sortI {xs : List Int} (h1 : rd s.mem x = some (.list (xs.map PyData.int))) (hz : xs.length < 64) (k : ∀ ys : List Int, ys.Perm xs → ys.Pairwise (· ≤ ·) → Φ (.own s.mem.length) ⟨s.sl, s.mem ++ [some (.list (ys.map PyData.int))]⟩) : CbS K Zc (rSortU K) [x] s Φ := by
  refine NoI.keep (fun _ wNoI => ?_) ?_
  simp only [↓ NoI.wrOf wNoI (by
  clear wNoI
  intro ad H σ vs Q I r p
  obtain ⟨v, rfl, r1⟩ := vrs1 r
  obtain ⟨a, us, rfl, e1, d1⟩ := rd_lst I.mr r1 h1
  rw [dpAll_ints d1] at e1
  exact .inr ⟨a, xs, rfl, SqL.of e1, hz, fun ys l hp hs hl => p.lst I (k ys hp hs) hl (dvs_ints _)⟩
  )]
  intro _ hNoI
  simpa using (fun (_ : NoI.Sg) => hNoI) [5]
/-! ### in, not in -/
def rInU (K : PySem.W.Frag) (neg : Bool) : R2 := fun x y H Q => rIn K neg x y H Q ∨ ∃ a o, y = .ref a ∧ DGet H a x o ∧ Q (.bl (if neg then !o.isSome else o.isSome)) H
theorem op_inU {X : Cx} (hu : X.A.units + 1 < cLine) : OpR X (compareOp .In) (rInU X.K false) := by
  refine NoI.keep (fun _ wNoI => ?_) ?_
  simp only [↓ NoI.wrOf wNoI (by
  clear wNoI
  intro pins s σ H x y v u Q I rx ry h
  rcases h with h | ⟨a, o, rfl, g, q⟩
  · exact op_in_seq pins s σ H x y v u Q I rx ry h
  · cases ry
    exact d_in hu I g rx fun s3 I3 => ⟨.bl o.isSome, H, I3, rfl, q⟩
  )]
  intro _ hNoI
  simpa using (fun (_ : NoI.Sg) => hNoI) [5]
theorem op_niU {X : Cx} (hu : X.A.units + 1 < cLine) : OpR X (compareOp .NotIn) (rInU X.K true) := by
  refine NoI.keep (fun _ wNoI => ?_) ?_
  simp only [↓ NoI.wrOf wNoI (by
  clear wNoI
  intro pins s σ H x y v u Q I rx ry h
  rcases h with h | ⟨a, o, rfl, g, q⟩
  · exact op_notIn_seq pins s σ H x y v u Q I rx ry h
  · cases ry
    exact d_notIn hu I g rx fun s3 I3 => ⟨.bl (!o.isSome), H, I3, rfl, q⟩
  )]
  intro _ hNoI
  simpa using (fun (_ : NoI.Sg) => hNoI) [5]
theorem inV_int (i : Int) : ∀ ns : List Int, inV (.int i) (ns.map V.int) = decide (i ∈ ns)
  | [] => rfl
  | n :: ns => by
    have := inV_int i ns
    unfold inV at this ⊢
    rw [List.map_cons, List.any_cons, this]
    show (n == i || decide (i ∈ ns)) = _
    by_cases e : n = i
    · subst e; simp
    · rw [beq_eq_false_iff_ne.mpr e]
      simp [show ¬ i = n from fun h => e h.symm]
theorem flat_ints : ∀ ns : List Int, (ns.map V.int).all flatV = true
  | [] => rfl
  | _ :: ns => flat_ints ns
/-- list or tuple -/
def seqD (d : D) : Option (List D) := match d with
  | .list ds => some ds
  | .tuple ds => some ds
  | _ => none
theorem rd_seq {ad : List Addr} {H : Hp} {m : Mem} {v : V} {sv : SV} {d : D} {ds : List D} (h : MR K Zc ad H m) (r : VR K Zc ad m H v sv) (e : rd m sv = some d) (hs : seqD d = some ds) :
    ∃ a vs, v = .ref a ∧ (SqL K H a vs ∨ SqT K H a vs) ∧ DVs K (FZ Zc ad m H) vs ds := by
  refine NoI.keep (fun _ wNoI => ?_) ?_
  simp only [↓ NoI.wrOf wNoI (by
  clear wNoI
  cases d with
  | list es =>
    cases hs
    obtain ⟨a, us, rfl, e1, d1⟩ := rd_lst h r e
    exact ⟨a, us, rfl, .inl (SqL.of e1), d1⟩
  | tuple es =>
    cases hs
    obtain ⟨a, us, rfl, e1, d1⟩ := rd_tup h r e
    exact ⟨a, us, rfl, .inr e1, d1⟩
  | none => cases hs
  | bool _ => cases hs
  | int _ => cases hs
  | str _ => cases hs
  | dict _ => cases hs
  )]
  intro _ hNoI
  simpa using (fun (_ : NoI.Sg) => hNoI) [5]
theorem os_inI {neg : Bool} {i : Int} {ns : List Int} {d : D} (h1 : rd s.mem x = some (.int i)) (h2 : rd s.mem y = some d) (hs : seqD d = some (ns.map PyData.int)) (k : Φ (.dat (.bool (if neg then !decide (i ∈ ns) else decide (i ∈ ns)))) s) : OpS K Zc (rInU K neg) x y s Φ := by
  refine NoI.keep (fun _ wNoI => ?_) ?_
  simp only [↓ NoI.wrOf wNoI (by
  clear wNoI
  intro ad H σ v u Q I r1 r2 p
  obtain ⟨a, us, rfl, e1, d1⟩ := rd_seq I.mr r2 h2 hs
  rw [dpAll_ints d1] at e1
  rw [rd_int I.mr r1 h1]
  exact .inl ⟨a, _, rfl, e1, rfl, flat_ints ns, by rw [inV_int]; exact p.val I k (sv := .dat _) (.bl _)⟩
  )]
  intro _ hNoI
  simpa using (fun (_ : NoI.Sg) => hNoI) [5]
end
/-! ### t.index(x) -/
section
variable {K : PySem.W.Frag} {Zc : Addr → Prop} {s : S} {x y : SV} {Φ : SV → S → Prop} {n : Nat} {De : DE}
end
end SH

namespace SH
open PySem PySem.Spec PyProof.Rows L2
variable [WW]
/-! ### dicts whose keys are ints and strings -/
def dk (es : List (Key × D)) : List (D × D) := es.map fun p => (kD p.1, p.2)
theorem kD_inj {a b : Key} (h : kD a = kD b) : a = b := by
  cases a <;> cases b <;> simp [kD] at h <;> simp [h]
def lkD (es : List (Key × D)) (k : Key) : Option D := (es.find? fun p => decide (p.1 = k)).map (·.2)
def ptD : List (Key × D) → Key → D → List (Key × D)
  | [], k, d => [(k, d)]
  | p :: r, k, d => if p.1 = k then (p.1, d) :: r else p :: ptD r k d
inductive KR (K : PySem.W.Frag) (H : Hp) : List (Key × V) → List (Key × D) → Prop
  | nil : KR K H [] []
  | cons {k : Key} {v : V} {d : D} {kvs : List (Key × V)} {es : List (Key × D)} : DV K H v d → KR K H kvs es → KR K H ((k, v) :: kvs) ((k, d) :: es)
section
variable {K : PySem.W.Frag} {H H' : Hp}
theorem KR.keys : ∀ {kvs : List (Key × V)} {es : List (Key × D)}, KR K H kvs es → kvs.map (·.1) = es.map (·.1)
  | _, _, .nil => rfl
  | _, _, .cons _ t => by simp [t.keys]
theorem KR.vals : ∀ {kvs : List (Key × V)} {es : List (Key × D)}, KR K H kvs es → DVs K H (kvs.map (·.2)) (es.map (·.2))
  | _, _, .nil => .nil
  | _, _, .cons r t => .cons r t.vals
theorem KR.len : ∀ {kvs : List (Key × V)} {es : List (Key × D)}, KR K H kvs es → kvs.length = es.length
  | _, _, .nil => rfl
  | _, _, .cons _ t => by simp [t.len]
theorem KR.of : ∀ {kvs : List (Key × V)} {es : List (Key × D)}, es.map (fun p => kD p.1) = kvs.map (fun p => kD p.1) → DVs K H (kvs.map (·.2)) (es.map (·.2)) → KR K H kvs es
  | [], [], _, _ => .nil
  | (k, v) :: kvs, (j, d) :: es, e, h => by
    rw [List.map_cons, List.map_cons] at e
    injection e with e1 e2
    cases kD_inj e1
    cases h with
    | cons r t => exact .cons r (KR.of e2 t)
  | [], _ :: _, e, _ => by simp at e
  | _ :: _, [], e, _ => by simp at e
theorem KR.cell {kvs : List (Key × V)} {es : List (Key × D)} {a : Addr} (h : KR K H kvs es) : Cell K H a (.dK kvs) (.dict (dk es)) := by
  refine NoI.keep (fun _ wNoI => ?_) ?_
  simp only [↓ NoI.wrOf wNoI (by
  clear wNoI
  refine .dK ?_ ?_
  · have := congrArg (List.map kD) h.keys
    simp only [List.map_map] at this
    simp only [dk, List.map_map]
    exact this.symm
  · simp only [dk, List.map_map]
    exact h.vals
  )]
  intro _ hNoI
  simpa using (fun (_ : NoI.Sg) => hNoI) [5]
theorem KR.mono (e : Same H H') : ∀ {kvs : List (Key × V)} {es : List (Key × D)}, KR K H kvs es → KR K H' kvs es
  | _, _, .nil => .nil
  | _, _, .cons r t => .cons (dp_mono e _ _ r) (t.mono e)
theorem KR.look {k : Key} {d : D} : ∀ {kvs : List (Key × V)} {es : List (Key × D)}, KR K H kvs es → lkD es k = some d → ∃ v, valV kvs k = some v ∧ DV K H v d
  | _, _, .nil, e => by simp [lkD] at e
  | _, _, .cons (k := j) (es := es) r t, e => by
    by_cases q : j = k
    · subst q
      simp [lkD] at e
      subst e
      exact ⟨_, valV_pos rfl, r⟩
    · have : lkD es k = some d := by simpa [lkD, List.find?_cons, q] using e
      obtain ⟨v, h1, h2⟩ := t.look this
      exact ⟨v, by rw [valV_neg (fun z => q z)]; exact h1, h2⟩
theorem putK_cons {p : Key × V} {kvs : List (Key × V)} {k : Key} {v : V} (hn : ((p :: kvs).map (·.1)).Nodup) : putK (p :: kvs) k v = if p.1 = k then (p.1, v) :: kvs else p :: putK kvs k v := by
  refine NoI.keep (fun _ wNoI => ?_) ?_
  simp only [↓ NoI.wrOf wNoI (by
  clear wNoI
  rw [List.map_cons, List.nodup_cons] at hn
  unfold putK
  by_cases q : p.1 = k
  · rw [if_pos q, if_pos (by simp [q]), List.map_cons, if_pos q]
    congr 1
    rw [List.map_congr_left (g := id) fun x hx => ?_, List.map_id]
    have : x.1 ≠ k := fun z => hn.1 (by rw [q, ← z]; exact List.mem_map_of_mem hx)
    simp [this]
  · rw [if_neg q]
    by_cases z : (kvs.any fun kv => decide (kv.1 = k)) = true
    · rw [if_pos (by rw [List.any_cons, z, Bool.or_true]), if_pos z, List.map_cons, if_neg q]
    · rw [if_neg (by rw [List.any_cons, decide_eq_false q, Bool.false_or]; exact z), if_neg z]
      rfl
  )]
  intro _ hNoI
  simpa using (fun (_ : NoI.Sg) => hNoI) [5]
theorem KR.put {k : Key} {v : V} {d : D} (r0 : DV K H v d) : ∀ {kvs : List (Key × V)} {es : List (Key × D)}, KR K H kvs es → (es.map (·.1)).Nodup → KR K H (putK kvs k v) (ptD es k d)
  | _, _, .nil, _ => .cons r0 .nil
  | _, _, .cons (k := j) r t, hn => by
    rw [putK_cons (by rw [(KR.cons r t).keys]; exact hn)]
    unfold ptD
    rw [List.map_cons, List.nodup_cons] at hn
    by_cases q : j = k
    · rw [if_pos q, if_pos q]; exact .cons r0 t
    · rw [if_neg q, if_neg q]; exact .cons r (t.put r0 hn.2)
/-- keys that are tuples are neither ints nor strings -/
theorem dks_flat {xs : List XE} {es : List (Key × D)} (hne : es ≠ []) : ¬ DKs K H xs (dk es) := by
  refine NoI.keep (fun _ wNoI => ?_) ?_
  simp only [↓ NoI.wrOf wNoI (by
  clear wNoI
  intro h
  cases es with
  | nil => exact hne rfl
  | cons e es =>
    obtain ⟨k, d⟩ := e
    generalize hq : dk ((k, d) :: es) = q at h
    cases h with
    | nil => simp [dk] at hq
    | cons h1 h2 h3 =>
      simp only [dk, List.map_cons, List.cons.injEq, Prod.mk.injEq] at hq
      rw [← hq.1.1] at h1
      cases k <;> cases h1
  )]
  intro _ hNoI
  simpa using (fun (_ : NoI.Sg) => hNoI) [5]
theorem dict_of {v : V} {es : List (Key × D)} (h : DV K H v (.dict (dk es))) (hne : es ≠ []) : ∃ a kvs, v = .ref a ∧ Rd H a (.dK kvs) ∧ KR K H kvs es := by
  refine NoI.keep (fun _ wNoI => ?_) ?_
  simp only [↓ NoI.wrOf wNoI (by
  clear wNoI
  cases h with
  | dK h1 h2 h3 =>
    refine ⟨_, _, rfl, h1, KR.of ?_ ?_⟩
    · rw [← h2, dk, List.map_map]; rfl
    · rw [dk, List.map_map] at h3; exact h3
  | dX h1 h2 => exact absurd h2 (dks_flat hne)
  )]
  intro _ hNoI
  simpa using (fun (_ : NoI.Sg) => hNoI) [5]
theorem cell_dict {o : HO} {es : List (Key × D)} {a : Addr} (h : Cell K H a o (.dict (dk es))) (hne : es ≠ []) : ∃ kvs, o = .dK kvs ∧ KR K H kvs es := by
  refine NoI.keep (fun _ wNoI => ?_) ?_
  simp only [↓ NoI.wrOf wNoI (by
  clear wNoI
  cases h with
  | dK h2 h3 =>
    refine ⟨_, rfl, KR.of ?_ ?_⟩
    · rw [← h2, dk, List.map_map]; rfl
    · rw [dk, List.map_map] at h3; exact h3
  | dX h2 => exact absurd h2 (dks_flat hne)
  )]
  intro _ hNoI
  simpa using (fun (_ : NoI.Sg) => hNoI) [5]
theorem dvs_keys : ∀ {vs : List V} {ks : List Key}, DVs K H vs (ks.map kD) → vs = ks.map kV
  | _, [], h => by cases h; rfl
  | _, k :: ks, h => by
    cases h with
    | cons h1 h2 =>
      rw [dvs_keys h2]
      cases k with
      | inl i => cases h1; rfl
      | inr x => cases h1; rfl
theorem kr_zip : ∀ {ks : List Key} {ys : List V} {ds : List D}, DVs K H ys ds → KR K H (ks.zip ys) (ks.zip ds)
  | [], _, _, _ => .nil
  | k :: ks, _, _, .nil => .nil
  | k :: ks, _, _, .cons r t => .cons r (kr_zip t)
end
section
variable {K : PySem.W.Frag} {Zc : Addr → Prop} {s : S} {x y : SV} {Φ : SV → S → Prop} {n : Nat} {De : DE}
theorem rd_dict {ad : List Addr} {H : Hp} {m : Mem} {v : V} {sv : SV} {es : List (Key × D)} (h : MR K Zc ad H m) (r : VR K Zc ad m H v sv) (e : rd m sv = some (.dict (dk es))) (hne : es ≠ []) :
    ∃ a kvs, v = .ref a ∧ Rd H a (.dK kvs) ∧ KR K (FZ Zc ad m H) kvs es := by
  refine NoI.keep (fun _ wNoI => ?_) ?_
  simp only [↓ NoI.wrOf wNoI (by
  clear wNoI
  cases sv with
  | dat z =>
    cases e
    obtain ⟨a, kvs, rfl, h1, h2⟩ := dict_of r hne
    exact ⟨a, kvs, rfl, rd_same h1 Fz_le, h2⟩
  | own i =>
    obtain ⟨a, o, rfl, _, q2, q3⟩ := rd_obj h r (rd_own e)
    obtain ⟨kvs, rfl, q⟩ := cell_dict q3 hne
    exact ⟨a, kvs, rfl, .inl q2, q⟩
  | ro _ => cases e
  | rng _ _ => cases e
  | exn _ _ _ => cases e
  | un => cases e
  )]
  intro _ hNoI
  simpa using (fun (_ : NoI.Sg) => hNoI) [5]
theorem rd_key {ad : List Addr} {H : Hp} {m : Mem} {v : V} {sv : SV} {k : Key} (h : MR K Zc ad H m) (r : VR K Zc ad m H v sv) (e : rd m sv = some (kD k)) : v = kV k := by
  cases k with
  | inl i => exact rd_int h r e
  | inr z => exact rd_str h r e
/-- dict(zip(a, b)) -/
theorem ev_dictZip {ta : TA} (h : ArS K Zc ta s fun svs s1 => ∃ x y, ∃ ks : List Key, ∃ ds, svs = [x, y] ∧ rd s1.mem x = some (.tuple (ks.map kD)) ∧ rd s1.mem y = some (.tuple ds) ∧ ks.length = ds.length ∧ ks.Nodup ∧
    Φ (.own s1.mem.length) ⟨s1.sl, s1.mem ++ [some (.dict (dk (ks.zip ds)))]⟩) : EvS K Zc (tDictZip K ta) s Φ := by
  refine NoI.keep (fun _ wNoI => ?_) ?_
  simp only [↓ NoI.wrOf wNoI (by
  clear wNoI
  intro ad H σ Q I p
  refine h ad H σ _ I fun vs ad1 H1 svs s1 h1 I1 F1 r1 => ?_
  obtain ⟨x, y, ks, ds, rfl, e1, e2, hl, hn, k⟩ := h1
  obtain ⟨v, u, rfl, rx, ry⟩ := vrs2 r1
  obtain ⟨a, us, rfl, t1, d1⟩ := rd_tup I1.mr rx e1
  obtain ⟨b, ws, rfl, t2, d2⟩ := rd_tup I1.mr ry e2
  rw [dvs_keys d1] at t1
  exact ⟨a, b, ks, ws, rfl, t1, t2, by rw [dpAll_len d2]; exact hl, hn, fun q hq => (p.step F1).cell I1 k hq (kr_zip d2).cell⟩
  )]
  intro _ hNoI
  simpa using (fun (_ : NoI.Sg) => hNoI) [5]
/-- dict(d) -/
def rDictC : List V → Hp → VK → Prop := fun xs H Q => ∃ (a : Addr) (kvs : List (Key × V)), xs = [.ref a] ∧ Rd H a (.dK kvs) ∧ ∀ p, H p = none → Q (.ref p) (upd H p (.dK kvs))
theorem call_dictC {X : Cx} : CallR X (.type "dict") rDictC := call_dictD
theorem cb_dictC {es : List (Key × D)} (h1 : rd s.mem x = some (.dict (dk es))) (hne : es ≠ []) (k : Φ (.own s.mem.length) ⟨s.sl, s.mem ++ [some (.dict (dk es))]⟩) : CbS K Zc rDictC [x] s Φ := by
  refine NoI.keep (fun _ wNoI => ?_) ?_
  simp only [↓ NoI.wrOf wNoI (by
  clear wNoI
  intro ad H σ vs Q I r p
  obtain ⟨v, rfl, r1⟩ := vrs1 r
  obtain ⟨a, kvs, rfl, e1, d1⟩ := rd_dict I.mr r1 h1 hne
  exact ⟨a, kvs, rfl, e1, fun q hq => p.cell I k hq d1.cell⟩
  )]
  intro _ hNoI
  simpa using (fun (_ : NoI.Sg) => hNoI) [5]
/-- x[y]: of lists, tuples, strings, dicts -/
def rIxU (K : PySem.W.Frag) : R2 := fun x y H Q => rIx K x y H Q ∨ (∃ a v, x = .ref a ∧ DGet H a y (some v) ∧ Q v H) ∨ rIxV K x y H Q
theorem ix_dk {X : Cx} (hu : X.A.units + 1 < cLine) : IxR X (fun x y H Q => ∃ a v, x = .ref a ∧ DGet H a y (some v) ∧ Q v H) := by
  refine NoI.keep (fun _ wNoI => ?_) ?_
  simp only [↓ NoI.wrOf wNoI (by
  clear wNoI
  intro value slice pins s σ H x y v u Q I rx ry h hs
  obtain ⟨a, w, rfl, g, q⟩ := h
  obtain rfl : v = Value.ref a := rx
  exact tail_any (dict_typeIs I g) PySem.F.slot_dict_getitem.lookup (d_getItem hu I g ry fun w' s' I' r' => ⟨w, H, I', r', q⟩) hs
  )]
  intro _ hNoI
  simpa using (fun (_ : NoI.Sg) => hNoI) [5]
theorem ix_U {X : Cx} (hu : X.A.units + 64 < cLine) : IxR X (@rIxU ⟨X.w⟩ X.K) := ix_seq.or ((ix_dk (by omega)).or (ix_dx hu))
theorem os_uL {ds : List D} {i : Int} {d : D} (h1 : rd s.mem x = some (.list ds)) (h2 : rd s.mem y = some (.int i)) (e : atI ds i = some d) (k : Φ (.dat d) s) : OpS K Zc (rIxU K) x y s Φ :=
  fun ad H σ v u Q I r1 r2 p => .inl (os_ixL h1 h2 e k ad H σ v u Q I r1 r2 p)
theorem os_uT {ds : List D} {i : Int} {d : D} (h1 : rd s.mem x = some (.tuple ds)) (h2 : rd s.mem y = some (.int i)) (e : atI ds i = some d) (k : Φ (.dat d) s) : OpS K Zc (rIxU K) x y s Φ :=
  fun ad H σ v u Q I r1 r2 p => .inl (os_ixT h1 h2 e k ad H σ v u Q I r1 r2 p)
theorem os_uS {z : Str} {i : Int} {c : Nat} (h1 : rd s.mem x = some (.str z)) (h2 : rd s.mem y = some (.int i)) (hz : z.length ≤ sizeLine) (e : atI z.cps.toList i = some c) (k : Φ (.dat (.str ⟨#[c]⟩)) s) : OpS K Zc (rIxU K) x y s Φ :=
  fun ad H σ v u Q I r1 r2 p => .inl (os_ixS h1 h2 hz e k ad H σ v u Q I r1 r2 p)
theorem os_uD {es : List (Key × D)} {k : Key} {d : D} (h1 : rd s.mem x = some (.dict (dk es))) (h2 : rd s.mem y = some (kD k)) (e : lkD es k = some d) (q : Φ (.dat d) s) : OpS K Zc (rIxU K) x y s Φ := by
  refine NoI.keep (fun _ wNoI => ?_) ?_
  simp only [↓ NoI.wrOf wNoI (by
  clear wNoI
  intro ad H σ v u Q I r1 r2 p
  have hne : es ≠ [] := fun z => by subst z; simp [lkD] at e
  obtain ⟨a, kvs, rfl, e1, d1⟩ := rd_dict I.mr r1 h1 hne
  obtain ⟨w, e2, d2⟩ := d1.look e
  rw [rd_key I.mr r2 h2]
  refine .inr (.inl ⟨a, w, rfl, ?_, p.val I q d2⟩)
  rw [← e2]
  exact .inl ⟨kvs, _, e1, rfl, rfl⟩
  )]
  intro _ hNoI
  simpa using (fun (_ : NoI.Sg) => hNoI) [5]
/-! ### targets that store into cells -/
def rSetU : TSet := fun o i v H Q => rSetL o i v H Q ∨ (∃ a H', o = .ref a ∧ DPut H a i v H' ∧ Q H') ∨ rSetV o i v H Q
theorem set_U {X : Cx} (hu : X.A.units + 64 < cLine) : PSet X (@rSetU ⟨X.w⟩) := by
  refine NoI.keep (fun _ wNoI => ?_) ?_
  simp only [↓ NoI.wrOf wNoI (by
  clear wNoI
  intro pins s σ H o i v ov iv u Q I ro ri rv h
  rcases h with h | ⟨a, H', rfl, g, q⟩ | h
  · exact set_list pins s σ H o i v ov iv u Q I ro ri rv h
  · obtain rfl : ov = Value.ref a := ro
    exact d_setItem (by omega) I g ri rv fun s' I' => ⟨H', I', q⟩
  · exact set_V hu pins s σ H o i v ov iv u Q I ro ri rv h
  )]
  intro _ hNoI
  simpa using (fun (_ : NoI.Sg) => hNoI) [5]
def GT (K : PySem.W.Frag) (Zc : Addr → Prop) (g : TG) (sv : SV) (s : S) (Ψ : S → Prop) : Prop :=
  ∀ ad H σ v (Q : L2.St → Hp → Prop), SR K Zc ad H σ s → VR K Zc ad s.mem H v sv → (∀ σ' ad' H' s', Ψ s' → SR K Zc ad' H' σ' s' → Frm Zc s.mem.length ad s.mem H ad' s'.mem H' → Q σ' H') → g v σ H Q
def GTs (K : PySem.W.Frag) (Zc : Addr → Prop) (g : TGs) (ds : List D) (s : S) (Ψ : S → Prop) : Prop :=
  ∀ ad H σ vs (Q : L2.St → Hp → Prop), SR K Zc ad H σ s → DVs K (FZ Zc ad s.mem H) vs ds → (∀ σ' ad' H' s', Ψ s' → SR K Zc ad' H' σ' s' → Frm Zc s.mem.length ad s.mem H ad' s'.mem H' → Q σ' H') → g vs σ H Q
theorem gt_name {i : Nat} {sv : SV} {Ψ : S → Prop} (h : Ψ ⟨s.sl.set i sv, s.mem⟩) : GT K Zc (gName i) sv s Ψ := by
  intro ad H σ v Q I r k
  exact k _ _ _ _ h (I.set r) (.refl (Nat.le_refl _))
theorem gt_nil {Ψ : S → Prop} (h : Ψ s) : GTs K Zc gNil [] s Ψ := by
  intro ad H σ vs Q I r k
  cases r
  exact ⟨rfl, k _ _ _ s h I (.refl (Nat.le_refl _))⟩
theorem gt_cons {g : TG} {u : TGs} {d : D} {ds : List D} {Ψ : S → Prop} (h : GT K Zc g (.dat d) s fun s1 => GTs K Zc u ds s1 Ψ) : GTs K Zc (gCons g u) (d :: ds) s Ψ := by
  refine NoI.keep (fun _ wNoI => ?_) ?_
  simp only [↓ NoI.wrOf wNoI (by
  clear wNoI
  intro ad H σ vs Q I r k
  cases r with
  | cons r1 r2 =>
    refine ⟨_, _, rfl, h ad H σ _ _ I r1 fun σ1 ad1 H1 s1 h1 I1 F1 => ?_⟩
    exact h1 ad1 H1 σ1 _ Q I1 (dpAll_mono F1.same _ _ r2) fun σ2 ad2 H2 s2 a b c => k σ2 ad2 H2 s2 a b (F1.trans c F1.le)
  )]
  intro _ hNoI
  simpa using (fun (_ : NoI.Sg) => hNoI) [5]
theorem gt_tup {K' : PySem.W.Frag} {j : Nat} {u : TGs} {d : D} {ds : List D} {Ψ : S → Prop} (hK : K' = K) (hd : d = .tuple ds) (hl : ds.length = j) (h : GTs K Zc u ds s Ψ) : GT K Zc (gTup K' j u) (.dat d) s Ψ := by
  refine NoI.keep (fun _ wNoI => ?_) ?_
  simp only [↓ NoI.wrOf wNoI (by
  clear wNoI
  intro ad H σ v Q I r k
  subst hK hd
  cases r with
  | tup h1 h2 => exact ⟨_, _, rfl, (h1.same Fz_le).sq, by rw [dpAll_len h2]; exact hl, h ad H σ _ Q I h2 k⟩
  )]
  intro _ hNoI
  simpa using (fun (_ : NoI.Sg) => hNoI) [5]
theorem gt_subD {to ti : TE} {d : D} {Ψ : S → Prop} (h : EvS K Zc to s fun o s2 => EvS K Zc ti s2 fun i s3 => ∃ j es k, o = .own j ∧ rd s3.mem i = some (kD k) ∧ s3.mem[j]? = some (some (.dict (dk es))) ∧ es ≠ [] ∧ es.length < sizeLine ∧ (es.map (·.1)).Nodup ∧ Ψ ⟨s3.sl, s3.mem.set j (some (.dict (dk (ptD es k d))))⟩) :
    GT K Zc (gSub to ti rSetU) (.dat d) s Ψ := by
  refine NoI.keep (fun _ wNoI => ?_) ?_
  simp only [↓ NoI.wrOf wNoI (by
  clear wNoI
  intro ad H σ v Q I r k0
  refine h ad H σ _ I fun o ad2 H2 so s2 h2 I2 F2 r2 => h2 ad2 H2 σ _ I2 fun i ad3 H3 si s3 h3 I3 F3 r3 => ?_
  obtain ⟨j, es, k, rfl, hk, e, hne, hz, hn, q⟩ := h3
  obtain ⟨a, ob, rfl, ha, hH, hc⟩ := rd_obj I3.mr (r2.frm F3) e
  obtain ⟨kvs, rfl, hd⟩ := cell_dict hc hne
  have hv : DV K _ v d := (r.frm F2).frm F3
  rw [rd_key I3.mr r3 hk]
  refine .inr (.inl ⟨a, _, rfl, DPut.k hH (by rw [hd.len]; exact hz), ?_⟩)
  exact k0 σ ad3 _ _ q (I3.put e ha (hd.put hv hn).cell) ((F2.trans F3 F2.le).trans (Frm.put e ha) (Nat.le_trans F2.le F3.le))
  )]
  intro _ hNoI
  simpa using (fun (_ : NoI.Sg) => hNoI) [5]
theorem ex_asgT {te : TE} {g : TG} (h : EvS K Zc te s (asD fun d s1 => GT K Zc g (.dat d) s1 De.nx)) : ExS K Zc n (tAsg te g) s De := by
  refine NoI.keep (fun _ wNoI => ?_) ?_
  simp only [↓ NoI.wrOf wNoI (by
  clear wNoI
  intro ad H σ Dd I hn k1 k2 k3 k4
  refine ev_asD (Φ := fun sv s1 => ∃ d, sv = .dat d ∧ GT K Zc g (.dat d) s1 De.nx) h (fun d s' z => ⟨d, rfl, z⟩) ad H σ _ I fun v ad1 H1 sv s1 h1 I1 F1 r1 => ?_
  obtain ⟨d, rfl, h1⟩ := h1
  exact h1 ad1 H1 σ v _ I1 r1 fun σ2 ad2 H2 s2 h2 I2 F2 => k1 σ2 ad2 H2 _ h2 I2 ((F1.trans F2 F1.le).less hn)
  )]
  intro _ hNoI
  simpa using (fun (_ : NoI.Sg) => hNoI) [5]

/-! ### tuple * int, pop(i) -/
def rRepF (K : PySem.W.Frag) : R2 := fun x y H Q => ∃ l k xs, x = .ref l ∧ y = .int k ∧ SqT K H l xs ∧ xs ≠ [] ∧ 2 ≤ k ∧ k ≤ 1000 ∧ xs.length ≤ 1000 ∧ mkT H (List.replicate k.toNat xs).flatten Q
theorem op_repF {X : Cx} : OpR X (binaryOp .Mult) (rRepF X.K) := by
  refine NoI.keep (fun _ wNoI => ?_) ?_
  simp only [↓ NoI.wrOf wNoI (by
  clear wNoI
  intro pins s σ H x y v u Q I rx ry h
  obtain ⟨l, k, xs, rfl, rfl, hT, hne, h1, h2, hz, q⟩ := h
  cases rx
  obtain ⟨t, rfl⟩ := ry
  obtain ⟨its, r, ⟨⟨cls, dd, data, sl⟩, ho, hc, n, hd⟩, hs⟩ := I.tuple hT
  simp only at hc hd
  subst hc hd
  have hle : its.length = xs.length := r.length.symm
  have hi : its.toArray.isEmpty = false := by
    cases its with
    | nil => exact absurd (List.eq_nil_of_length_eq_zero hle.symm) hne
    | cons a b => rfl
  have hm : ((its.toArray.size : Nat) : Int) * k ≤ 1000000 := by
    rw [List.size_toArray, hle]
    exact Int.le_trans (Int.mul_le_mul_of_nonneg_right (by omega : ((xs.length : Nat) : Int) ≤ 1000) (by omega)) (by omega)
  have fl : ∀ ys : List V, ys.length = xs.length → (List.replicate k.toNat ys).flatten.length ≤ sizeLine := fun ys e => by
    rw [PyProof.Rows.lm_len_rep_flat, e, sizeLine_eq]
    have : k.toNat * xs.length ≤ 1000 * 1000 := Nat.mul_le_mul (by omega) hz
    omega
  have fl2 : (List.replicate k.toNat its).flatten.length ≤ sizeLine := by
    rw [PyProof.Rows.lm_len_rep_flat, hle, sizeLine_eq]
    have : k.toNat * xs.length ≤ 1000 * 1000 := Nat.mul_le_mul (by omega) hz
    omega
  have c0 : (decide (k < -(2 ^ 63)) || decide (k ≥ 2 ^ 63)) = false := by
    rw [decide_eq_false (by omega), decide_eq_false (by omega)] <;> rfl
  have c1 : (its.toArray.isEmpty || k == 1) = false := by
    rw [hi, Bool.false_or]
    exact beq_eq_false_iff_ne.mpr (by omega)
  have c2 : (decide (k ≤ 0) || its.toArray.isEmpty) = false := by
    rw [hi, Bool.or_false]
    exact decide_eq_false (by omega)
  have c4 : Builtin.Tuple.tupleTooMany (((its.toArray.size : Nat) : Int) * k) = false := by
    unfold Builtin.Tuple.tupleTooMany
    rw [sizeLine_eq]
    exact decide_eq_false (by omega)
  refine wpAny_binaryOp_repeat_ref (T := "tuple") (U := "int") (by decide) ⟨_, ho, rfl⟩ (fun s' => typeIs_int s' k t) noFill_tuple_mul PySem.F.fills_int_mul PySem.F.slot_int_rmul repeat_tuple PySem.F.slot_int_index.lookup
    (call_meets PySem.F.slot_int_rmul (typeIs_int s k t) PySem.F.entry_int_rmul (PySem.F.args_int_rmul_2 _ _) (int_rmul_tuple k t l its.toArray n dd sl)
      ⟨ho, rfl, ⟨_, ho, rfl⟩, call_meets PySem.F.slot_tuple_mul ⟨_, ho, rfl⟩ PySem.F.entry_tuple_mul (PySem.F.args_tuple_mul_2 _ _) (tuple_mulW l its.toArray n dd sl k t c0 c1 c2 (by omega) c4 (by rw [size_rep, List.size_toArray]; exact fl2)) ⟨ho, ?_⟩⟩)
  rw [size_rep]
  exact newTup I (r.rep k.toNat) (fl xs rfl) q
  )]
  intro _ hNoI
  simpa using (fun (_ : NoI.Sg) => hNoI) [5]
def rMulX (K : PySem.W.Frag) : R2 := fun x y H Q => rMulU x y H Q ∨ rRepF K x y H Q
theorem op_mulX {X : Cx} : OpR X (binaryOp .Mult) (rMulX X.K) := opr_or op_mulU op_repF
theorem os_mxI {i j : Int} (h1 : rd s.mem x = some (.int i)) (h2 : rd s.mem y = some (.int j)) (hc : CMulW i j) (k : Φ (.dat (.int (i * j))) s) : OpS K Zc (rMulX K) x y s Φ :=
  fun ad H σ v u Q I r1 r2 p => .inl (os_mulI h1 h2 hc k ad H σ v u Q I r1 r2 p)
theorem os_mxS {z : Str} {n : Int} (h1 : rd s.mem x = some (.str z)) (h2 : rd s.mem y = some (.int n)) (hc : MulOk z n) (k : Φ (.dat (.str (Txt.mul z n))) s) : OpS K Zc (rMulX K) x y s Φ :=
  fun ad H σ v u Q I r1 r2 p => .inl (os_mulS h1 h2 hc k ad H σ v u Q I r1 r2 p)
theorem dvs_flat {H : Hp} {vs : List V} {ds : List D} (h : DVs K H vs ds) : ∀ n, DVs K H (List.replicate n vs).flatten (List.replicate n ds).flatten
  | 0 => .nil
  | n + 1 => by
    rw [List.replicate_succ, List.replicate_succ, List.flatten_cons, List.flatten_cons]
    exact dpAll_append h (dvs_flat h n)
theorem dvs_erase {H : Hp} : ∀ {vs : List V} {ds : List D} (i : Nat), DVs K H vs ds → DVs K H (vs.eraseIdx i) (ds.eraseIdx i)
  | _, _, _, .nil => .nil
  | _, _, 0, .cons _ t => t
  | _, _, i + 1, .cons r t => .cons r (dvs_erase i t)
theorem mt_popAtS {i : Nat} {ds : List D} {d : D} {j : Int} {idx : Nat} (e : s.mem[i]? = some (some (.list ds))) (b1 : -(2 ^ 63) ≤ j) (b2 : j < 2 ^ 63) (hi : seqIndex? j ds.length = some idx) (hd : ds[idx]? = some d) (k : Φ (.dat d) ⟨s.sl, s.mem.set i (some (.list (ds.eraseIdx idx)))⟩) :
    MtS K Zc rPopAt (.own i) [.dat (.int j)] s Φ := by
  refine NoI.keep (fun _ wNoI => ?_) ?_
  simp only [↓ NoI.wrOf wNoI (by
  clear wNoI
  intro ad H σ v vs Q I r1 r2 p
  obtain ⟨y, rfl, ry⟩ := vrs1 r2
  cases ry
  obtain ⟨a, us, rfl, ha, hH, hds⟩ := own_at I.mr r1 e
  obtain ⟨w, q1, q2⟩ := dpAll_get hds hd
  exact ⟨a, us, j, idx, w, rfl, rfl, hH, b1, b2, by rw [dpAll_len hds]; exact hi, q1, p.put I e ha (dvs_erase idx hds) (sv := .dat d) q2 k⟩
  )]
  intro _ hNoI
  simpa using (fun (_ : NoI.Sg) => hNoI) [5]
end
end SH

namespace SH
open PySem PySem.Spec PyProof.Rows L2
variable [WW]
section
variable {K : PySem.W.Frag} {Zc : Addr → Prop} {s : S} {x y : SV} {Φ : SV → S → Prop} {n : Nat} {De : DE}
theorem wk_wipe {s4 : S} {sl0 : List SV} {i : Nat} {m0 : Mem} (w : Wk s4 ⟨sl0.set i .un, m0⟩) : Wk ⟨wipeS s4.sl [i], s4.mem⟩ ⟨sl0.set i .un, m0⟩ := by
  refine NoI.keep (fun _ wNoI => ?_) ?_
  simp only [↓ NoI.wrOf wNoI (by
  clear wNoI
  refine ⟨by simpa [wipeS] using w.len, fun j sv e => ?_, w.le, w.mem⟩
  have e : (sl0.set i SV.un)[j]? = some sv := e
  show sv = .un ∨ ((s4.sl.set i SV.un)[j]? = some sv ∧ _)
  by_cases hj : i = j
  · subst hj
    rw [List.getElem?_set, if_pos rfl] at e
    split at e
    · cases e; exact .inl rfl
    · cases e
  · rcases w.sl j sv e with z | ⟨z1, z2⟩
    · exact .inl z
    · exact .inr ⟨by rw [List.getElem?_set_ne hj]; exact z1, z2⟩
  )]
  intro _ hNoI
  simpa using (fun (_ : NoI.Sg) => hNoI) [5]
theorem wk_acc {s4 : S} {sl0 : List SV} {m0 : Mem} {a c : D} (w : Wk s4 ⟨sl0, m0 ++ [some a]⟩) : Wk ⟨s4.sl, s4.mem.set m0.length (some c)⟩ ⟨sl0, m0 ++ [some c]⟩ := by
  refine NoI.keep (fun _ wNoI => ?_) ?_
  simp only [↓ NoI.wrOf wNoI (by
  clear wNoI
  have hm : s4.mem[m0.length]? = some (some a) := w.mem _ _ (by simp)
  refine ⟨w.len, fun j sv e => ?_, ?_, fun j ds e => ?_⟩
  · rcases w.sl j sv e with z | ⟨z1, z2⟩
    · exact .inl z
    · exact .inr ⟨z1, fun j2 e2 => by have := z2 j2 e2; simpa using this⟩
  · have := w.le
    simpa using this
  · have e : (m0 ++ [some c])[j]? = some (some ds) := e
    show (s4.mem.set m0.length _)[j]? = _
    by_cases hj : j = m0.length
    · subst hj
      simp at e
      subst e
      rw [List.getElem?_set_self (List.getElem?_eq_some_iff.mp hm).1]
    · rw [List.getElem?_set_ne fun z => hj z.symm]
      refine w.mem j ds ?_
      show (m0 ++ [some a])[j]? = some (some ds)
      by_cases h2 : j < m0.length
      · rw [List.getElem?_append_left h2] at e ⊢; exact e
      · have := (List.getElem?_eq_some_iff.mp e).1
        simp at this
        omega
  )]
  intro _ hNoI
  simpa using (fun (_ : NoI.Sg) => hNoI) [5]
/-- a cell handed to a method: it stays as it is from here on -/
theorem mt_fz {r : V → List V → Hp → VK → Prop} {i j : Nat} {e : D} (hj : s.mem[j]? = some (some e)) (h : MtS K Zc r (.own i) [.dat e] (s.fz j e) Φ) : MtS K Zc r (.own i) [.own j] s Φ := by
  refine NoI.keep (fun _ wNoI => ?_) ?_
  simp only [↓ NoI.wrOf wNoI (by
  clear wNoI
  intro ad H σ v vs Q I r1 r2 p
  obtain ⟨y, rfl, ry⟩ := vrs1 r2
  obtain ⟨_, a, h2, rfl⟩ := ry
  have F : Frm Zc s.mem.length ad s.mem H ad (s.fz j e).mem H := Frm.drop (i := j)
  exact h ad H σ v _ Q (I.fz hj) (VR.frm (sv := .own i) r1 F) ⟨I.mr.drop_at hj h2, trivial⟩ (p.step F)
  )]
  intro _ hNoI
  simpa using (fun (_ : NoI.Sg) => hNoI) [5]
/-- a comprehension with a test, whose element changes nothing -/
theorem ev_lcG {wi : TI} {tt : TT} {te : TE} {i : Nat} (hi : IterS K Zc wi s fun items s1 => ∃ g : D → Option D, items.length ≤ 1000000 ∧
      (∀ (k : Nat) (d : D) (m' : Mem), items[k]? = some d → m' = s1.mem ++ [some (.list ((items.take k).filterMap g))] →
        TtS K Zc tt ⟨(s1.sl.set i .un).set i (.dat d), m'⟩ fun b s3 =>
          (b = true → ∃ e, g d = some e ∧ EvS K Zc te s3 (asD fun y s4 => y = e ∧ Wk s4 ⟨s1.sl.set i .un, m'⟩)) ∧ (b = false → g d = none ∧ Wk s3 ⟨s1.sl.set i .un, m'⟩)) ∧
      Φ (.own s1.mem.length) ⟨s1.sl.set i .un, s1.mem ++ [some (.list (items.filterMap g))]⟩) :
    EvS K Zc (tLc wi (gName i) tt te [i]) s Φ := by
  refine NoI.keep (fun _ wNoI => ?_) ?_
  simp only [↓ NoI.wrOf wNoI (by
  clear wNoI
  refine ev_lc gw_name fun ad H σ R I p => hi ad H σ R I fun J ad' H' items s1 h I' F jok => p J ad' H' items s1 ?_ I' F jok
  obtain ⟨g, hz, hs, hd⟩ := h
  refine ⟨fun k s => s = ⟨s1.sl.set i .un, s1.mem ++ [some (.list ((items.take k).filterMap g))]⟩, by simp [wipeS], ?_, ?_⟩
  · rintro k d _ hk rfl hn
    have tk : (items.take (k + 1)).filterMap g = (items.take k).filterMap g ++ (g d).toList := by
      rw [List.take_add_one, hk, List.filterMap_append]
      show _ ++ List.filterMap g [d] = _
      rw [List.filterMap_cons, List.filterMap_nil]
      cases g d <;> rfl
    refine g_name ?_
    intro ad H σ Q I p
    refine hs k d _ hk rfl ad H σ Q I fun b ad' H' s3 h3 I3 F3 => p b ad' H' s3 ⟨fun hb => ?_, fun hb => ?_⟩ I3 F3
    · obtain ⟨e, he, h3⟩ := h3.1 hb
      have fin : ∀ y s4, (y = e ∧ Wk s4 ⟨s1.sl.set i .un, s1.mem ++ [some (.list ((items.take k).filterMap g))]⟩) →
          ∃ acc, s4.mem[s1.mem.length]? = some (some (.list acc)) ∧ acc.length < sizeLine ∧ To (s1.mem.length + 1) (fun s => s = ⟨s1.sl.set i .un, s1.mem ++ [some (.list ((items.take (k + 1)).filterMap g))]⟩) ⟨wipeS s4.sl [i], s4.mem.set s1.mem.length (some (.list (acc ++ [y])))⟩ := by
        rintro y s4 ⟨rfl, w⟩
        refine ⟨(items.take k).filterMap g, w.mem _ _ (by simp), ?_, _, ?_, ?_, rfl⟩
        · have h1 := List.length_filterMap_le g (items.take k)
          have h2 := List.length_take_le k items
          have h3 : (items.take k).length ≤ items.length := by rw [List.length_take]; omega
          rw [sizeLine_eq]
          omega
        · rw [tk, he]
          exact wk_wipe (wk_acc w)
        · simp
      refine h3.imp ?_
      rintro sv s4 q
      cases sv with
      | dat d => exact fin d s4 q
      | own j =>
        simp only [asD] at q ⊢
        split
        · rename_i ds e
          rw [e] at q
          exact fin _ _ q
        · rename_i h
          split at q
          · rename_i ds e
            exact absurd e (h ds)
          · exact q
      | ro _ => exact q.elim
      | rng _ _ => exact q.elim
      | exn _ _ _ => exact q.elim
      | un => exact q.elim
    · obtain ⟨he, w⟩ := h3.2 hb
      refine ⟨_, ?_, ?_, rfl⟩
      · rw [tk, he]
        simp only [Option.toList_none, List.append_nil]
        exact wk_wipe w
      · simp
  · rintro _ rfl
    rw [List.take_length]
    simpa [wipeS] using hd
  )]
  intro _ hNoI
  simpa using (fun (_ : NoI.Sg) => hNoI) [5]
/-! ### repr, of an int too -/
def rReprW (K : PySem.W.Frag) : List V → Hp → VK → Prop := fun xs H Q => rReprU K xs H Q ∨ (∃ i, xs = [.int i] ∧ i.natAbs.log2 < 1920 ∧ Q (.str (toString i)) H) ∨ rReprV K xs H Q
theorem call_reprW {X : Cx} {k : Nat} (hg : X.A.guards = some []) (hr : Room k X.A) : CallR X (.builtin "repr") (@rReprW ⟨X.w⟩ X.K) := by
  refine NoI.keep (fun _ wNoI => ?_) ?_
  simp only [↓ NoI.wrOf wNoI (by
  clear wNoI
  intro pins s σ H xs us Q I r h
  rcases h with h | h | h
  · exact call_reprU hg hr pins s σ H xs us Q I r h
  · exact SkE.call_repr_int pins s σ H xs us Q I r h
  · exact call_reprV hg hr pins s σ H xs us Q I r h
  )]
  intro _ hNoI
  simpa using (fun (_ : NoI.Sg) => hNoI) [5]
theorem cb_reprX {d : D} (h1 : rd s.mem x = some d) (hl : (∃ ds, d = .list ds) ∨ ∃ ds, d = .tuple ds) (h2 : d.showable = true) (h3 : d.hasDict = false) (h4 : d.depth ≤ 60) (h5 : d.shown.length ≤ sizeLine) (k : Φ (.dat (.str d.shown)) s) : CbS K Zc (rReprW K) [x] s Φ :=
  fun ad H σ vs Q I r p => .inl (cb_repr h1 hl h2 h3 h4 h5 k ad H σ vs Q I r p)
theorem cb_reprI {i : Int} (h1 : rd s.mem x = some (.int i)) (hi : i.natAbs.log2 < 1920) (k : Φ (.dat (.str (toString i : String))) s) : CbS K Zc (rReprW K) [x] s Φ := by
  intro ad H σ vs Q I r p
  obtain ⟨v, rfl, r1⟩ := vrs1 r
  exact .inr (.inl ⟨i, by rw [rd_int I.mr r1 h1], hi, p.val I k (sv := .dat _) (.str _)⟩)
theorem cb_reprV {d : D} (h1 : rd s.mem x = some d) (z : Sh d) (hz : d.depth ≤ 40) (k : Φ (.dat (.str d.shown)) s) : CbS K Zc (rReprW K) [x] s Φ := by
  intro ad H σ vs Q I r p
  obtain ⟨v, rfl, r1⟩ := vrs1 r
  exact .inr (.inr ⟨v, d, rfl, rd_D I.mr r1 h1, z, hz, p.val I k (sv := .dat _) (.str _)⟩)
end
end SH

namespace SH
open PySem PySem.Spec PyProof.Rows L2
variable [WW]
/-! ### isinstance(x, T), T a built-in type -/
def tyD : D → String
  | .none => "NoneType"
  | .bool _ => "bool"
  | .int _ => "int"
  | .str _ => "str"
  | .list _ => "list"
  | .tuple _ => "tuple"
  | .dict _ => "dict"
def isiB (a b : String) : Bool := a == b || (a == "bool" && b == "int")
theorem tyD_mem (d : D) : tyD d ∈ ["NoneType", "bool", "int", "str", "list", "tuple", "dict"] := by cases d <;> simp [tyD]
theorem kit_isi {T : String} (hT : T = "tuple" ∨ T = "str" ∨ T = "int" ∨ T = "bool" ∨ T = "list" ∨ T = "dict") (d : D) : kitB (tyD d) T = some (isiB (tyD d) T) := by
  refine NoI.keep (fun _ wNoI => ?_) ?_
  simp only [↓ NoI.wrOf wNoI (by
  clear wNoI
  have h : ∀ a ∈ ["NoneType", "bool", "int", "str", "list", "tuple", "dict"], ∀ t ∈ ["tuple", "str", "int", "bool", "list", "dict"], kitB a t = some (isiB a t) := by decide +kernel
  exact h _ (tyD_mem d) T (by simpa using hT)
  )]
  intro _ hNoI
  simpa using (fun (_ : NoI.Sg) => hNoI) [5]
/-- isinstance(x, c), x may be a dict with tuple keys -/
def rIsiX (K : PySem.W.Frag) : List V → Hp → VK → Prop := fun xs H Q => rIsi K xs H Q ∨ ∃ a ys c u b, xs = [.ref a, c] ∧ ClsV c u ∧ Rd H a (DXo a ys) ∧ PySem.W.kitOne K (.type "dict") u = some b ∧ Q (.bl b) H
theorem tyx_of {K : PySem.W.Frag} {H : Hp} {v : V} {d : D} (h : DV K H v d) : TyX K H v (.type (tyD d)) ∨ ∃ a xs es, v = .ref a ∧ Rd H a (DXo a xs) ∧ d = .dict es := by
  refine NoI.keep (fun _ wNoI => ?_) ?_
  simp only [↓ NoI.wrOf wNoI (by
  clear wNoI
  cases h with
  | non => exact .inl (.base .non)
  | bl b => exact .inl (.base (.bl b))
  | int i => exact .inl (.base (.int i))
  | str x => exact .inl (.base (.str x))
  | lst h1 h2 => exact .inl (.base (.lst h1))
  | tup h1 h2 =>
    rcases h1 with ⟨_, o, _, h1⟩ | ⟨_, h1⟩
    · exact .inl (.fTuple h1)
    · exact .inl (.base (.tup h1))
  | dK h1 h2 h3 =>
    rcases h1 with h1 | ⟨_, h1⟩
    · exact .inl (.base (.dK h1))
    · exact .inl (.fDict h1)
  | dX h1 h2 => exact .inr ⟨_, _, _, rfl, h1, rfl⟩
  )]
  intro _ hNoI
  simpa using (fun (_ : NoI.Sg) => hNoI) [5]
section
variable {K : PySem.W.Frag} {Zc : Addr → Prop} {s : S} {Φ : SV → S → Prop}
theorem ev_isi {te : TE} {T : String} (hT : T = "tuple" ∨ T = "str" ∨ T = "int" ∨ T = "bool" ∨ T = "list" ∨ T = "dict") (h : EvS K Zc te s fun x s1 => ∃ d, rd s1.mem x = some d ∧ Φ (.dat (.bool (isiB (tyD d) T))) s1) :
    EvS K Zc (tCB (rIsiX K) (tCons te (tCons (tC (.ty T)) tNil))) s Φ := by
  refine NoI.keep (fun _ wNoI => ?_) ?_
  simp only [↓ NoI.wrOf wNoI (by
  clear wNoI
  intro ad H σ Q I p
  refine h ad H σ _ I fun v ad1 H1 x s1 h1 I1 F1 r1 => ?_
  obtain ⟨d, e, k⟩ := h1
  have hk := kit_ty (K := K) (kit_isi hT d)
  rcases tyx_of (rd_D I1.mr r1 e) with z | ⟨a, xs, es, rfl, z, rfl⟩
  · exact .inl ⟨v, .ty T, .type (tyD d), .type T, _, rfl, .ty T, z, hk, (p.step F1).val I1 k (sv := .dat _) (.bl _)⟩
  · exact .inr ⟨a, xs, .ty T, .type T, _, rfl, .ty T, z, hk, (p.step F1).val I1 k (sv := .dat _) (.bl _)⟩
  )]
  intro _ hNoI
  simpa using (fun (_ : NoI.Sg) => hNoI) [5]
end
end SH

set_option maxHeartbeats 1000000
/-! enumerate(xs), xs a list or a tuple -/
namespace SH
open PySem PySem.Spec PyProof.Rows L2
variable [WW]
open PySem.AutoSeq1 (wpAny_loadPart')
theorem meets_enum_newT (l : Addr) (items : Array Value) :
    Meets (Builtin.«enumerate.__new__» ⟨[.type "enumerate", .ref l], []⟩) (fun _ R s => s.heap.IsTuple l items ∧
      R (.ok (.ret (.ref (s.heap.push { cls := .type "tuple_iterator", data := .fields #[.ref l, .int 0 0] }).objs.size)))
        { s with heap := (s.heap.push { cls := .type "tuple_iterator", data := .fields #[.ref l, .int 0 0] }).push { cls := .type "enumerate", data := .fields #[.none, .bool false, .ref s.heap.objs.size, rawInt 0, .none, .none] } }) :=
  .of_wp fun prog w A R s h => by
    obtain ⟨hp, g, d, tk, os⟩ := s; obtain ⟨hl, h⟩ := h
    have hsub := sub_enumerate
    have hL : Heap.IsTuple (Shared.heap ⟨hp, g, d, tk, os⟩) l items := hl
    obtain ⟨o, ho, hc, n, hd⟩ := id hl
    wp_walk
    refine wpAny_stack_any fun st => wpAny_pure ?_
    split
    · rename_i c _ _ _ _ _
      cases (c == Value.type "enumerate")
      · wp_walk using wpAny_pyIter_tuple hL
        exact ⟨_, rfl, h⟩
      · wp_walk using wpAny_pyIter_tuple hL
        exact ⟨_, rfl, h⟩
    · wp_walk using wpAny_pyIter_tuple hL
      exact ⟨_, rfl, h⟩
section
variable {prog : Program} {w : World} {A : Around} {E : Value → Shared → Prop} {s : Shared}
theorem call_enumT {l : Addr} {items : Array Value} {Q : Value → Shared → Prop} (hL : s.heap.IsTuple l items)
    (h : ∀ h', IsEnum h' (s.heap.objs.size + 1) s.heap.objs.size 0 .none → h'.IsTupleIter s.heap.objs.size l 0 → h'.objs.size = s.heap.objs.size + 2 →
      (∀ b o, s.heap.get? b = some o → h'.get? b = some o) → Q (.ref (s.heap.objs.size + 1)) { s with heap := h' }) :
    wpAny (model prog w) A (call (.type "enumerate") [.ref l]) Q E s := by
  refine NoI.keep (fun _ wNoI => ?_) ?_
  simp only [↓ NoI.wrOf wNoI (by
  clear wNoI
  refine callType_new F.called_enumerate (by decide) (F.typeCall_enumerate_1 _) (F.newCall_enumerate_1 _) (fun obj => F.args_object_init_2 obj _) F.entry_enumerate_new
    (meets_enum_newT l items) ⟨hL, ?_⟩
  have hz : (s.heap.push { cls := .type "tuple_iterator", data := .fields #[.ref l, .int 0 0] }).objs.size = s.heap.objs.size + 1 := Heap.size_push ..
  show _ ∧ _
  rw [hz]
  have he : IsEnum ((s.heap.push { cls := .type "tuple_iterator", data := .fields #[.ref l, .int 0 0] }).push
      { cls := .type "enumerate", data := .fields #[.none, .bool false, .ref s.heap.objs.size, rawInt 0, .none, .none] }) (s.heap.objs.size + 1) s.heap.objs.size 0 .none := by
    have := Heap.get?_push_size (s.heap.push { cls := .type "tuple_iterator", data := .fields #[.ref l, .int 0 0] })
      (o := { cls := .type "enumerate", data := .fields #[.none, .bool false, .ref s.heap.objs.size, rawInt 0, .none, .none] }) rfl
    rw [hz] at this; exact this
  refine ⟨⟨_, he, rfl⟩, h _ he ⟨_, Heap.get?_push_of_some _ (Heap.get?_push_size _ rfl), rfl, rfl⟩ (by rw [Heap.size_push, hz]) fun b o x => Heap.get?_push_of_some _ (Heap.get?_push_of_some _ x)⟩
  )]
  intro _ hNoI
  simpa using (fun (_ : NoI.Sg) => hNoI) [5]
end
theorem draws_end {prog : Program} {w : World} {A : Around} (hh : A.handled = none) (it t : Addr) (items : Array Value) (i : Nat) (hi : items[i]? = none) :
    Draws prog w A it [it, t] i (fun _ _ => False) (fun j h => j = i ∧ h.IsTupleIter it t i ∧ h.IsTuple t items) where
  live := fun _ _ st => let ⟨o, ho, _⟩ := st.2.1; ⟨o, ho⟩
  frame := fun _ _ _ st hk => ⟨st.1, st.2.1.at fun o e => hk it (by simp) o e, st.2.2.at fun o e => hk t (by simp) o e⟩
  item := fun j s Q E hj st _ => absurd hj (by rw [st.1]; exact Nat.lt_irrefl _)
  done := fun s Q E st hE => RZ.nextOf_tuple_end hh st.2.1 st.2.2 hi hE
def ItEt (K : PySem.W.Frag) (a : Addr) : It :=
  ⟨fun i H => ∃ (xs : List V) (x : V), SqT K H a xs ∧ xs[i]? = some x, fun i H v H' => ∃ T x, v = .ref T ∧ H T = none ∧ H' = upd H T (.tup [.int (i : Nat), x]) ∧ ∀ xs, SqT K H a xs → xs[i]? = some x, fun i H => ∃ xs : List V, SqT K H a xs ∧ xs.length ≤ i⟩
theorem turn_enumT {P : Program} {w : World} {K : PySem.W.Frag} {elts : List Expr} {kk : Nat} {tpos : Pos} (a e it : Addr) (hai : a ≠ it) (hea : e ≠ a) :
    Turn P w K (.Tuple elts kk tpos) (ItEt K a) [e, it] e (fun i h => (∃ old, IsEnum h e it ((i : Nat) : Int) old) ∧ h.IsTupleIter it a i ∧ e ≠ it) where
  mem := by simp
  obj := fun i h st b hb => by
    obtain ⟨⟨old, he⟩, ⟨o, ho, hc, hd⟩, _⟩ := st
    have e' : b = e ∨ b = it := by simpa using hb
    rcases e' with z | z
    · rw [z]; exact ⟨_, he, fun v q => nomatch q⟩
    · rw [z]; exact ⟨o, ho, fun v q => by rw [hd] at q; cases q⟩
  keep := fun i h h' st k => let ⟨⟨old, he⟩, hi, hne⟩ := st; ⟨⟨old, k e (by simp) _ he⟩, hi.at fun o q => k it (by simp) o q, hne⟩
  item := by
    intro X hP hw hK hc i pins s σ H E I hf st hg
    subst hP hw hK
    obtain ⟨⟨old, he⟩, hit, hne⟩ := st
    obtain ⟨xs, x, hq, hx⟩ := hg
    obtain ⟨its, rv, p, hz⟩ := I.tuple hq
    obtain ⟨u, hu, ru⟩ := rv.get hx
    have hel : e < s.heap.objs.size := Heap.lt_size he
    have hil : it < s.heap.objs.size := by obtain ⟨_, q, _⟩ := hit; exact Heap.lt_size q
    have hi : i < its.toArray.size := by rw [List.size_toArray]; exact (List.getElem?_eq_some_iff.mp hu).1
    refine wpAny_pyNext_enum_itemC (D := Draws.tuple (A := X.A.in1) (I.ok.hd hc) it a hai its.toArray) he ⟨hit, p⟩ hi hne (by simp [hne, hea]) fun x' h' tk hx' ho hst hT hsz hk => ?_
    have ex : x' = u := by
      have : its[i]? = some x' := by simpa using hx'
      rw [hu] at this
      exact (Option.some.inj this).symm
    subst ex
    refine ⟨_, rfl, wpAny_letOwnedTupleGo_enum (s := { s with heap := h', toks := tk + 1 }) ho fun h'' he' sb => ?_⟩
    have hT2 : h''.get? s.heap.objs.size = some { cls := .type "tuple", data := .seq #[.int i tk, x'] } := (sb.2 _ (Nat.ne_of_gt hel)).trans hT
    have new : ObjOk X.prog X.w (upd H s.heap.objs.size (.tup [.int (i : Nat), x])) h'' s.heap.objs.size (.tup [.int (i : Nat), x]) :=
      ⟨by show 2 ≤ sizeLine; decide, [.int i tk, x'], .cons ⟨_, rfl⟩ (.cons ru .nil), ⟨_, hT2, rfl, _, rfl⟩⟩
    have I1 : Inv X pins σ (upd H s.heap.objs.size (.tup [.int (i : Nat), x])) { s with heap := h'', toks := tk + 1 } :=
      I.turnedNew (ch := [e, it]) (fun b ob hb q => (sb.2 b (fun z => hb (by simp [z]))).trans (hk b ob (fun z => hb (by simp [z])) (fun z => hb (by simp [z])) q)) hf (Nat.le_refl _) new
    refine ⟨.ref s.heap.objs.size, _, I1, rfl, ⟨_, x, rfl, I.hok.fresh (Nat.le_refl _), rfl, fun ys hy => by rw [I.tuple_inj hy hq]; exact hx⟩, ⟨⟨x', ?_⟩, hst.1.at fun o q => (sb.2 it (Ne.symm hne)).trans q, hne⟩, fun b hb => ?_⟩
    · have e1 : ((i + 1 : Nat) : Int) = (i : Int) + 1 := by omega
      rw [e1]; exact he'
    · have hb' : b < s.heap.objs.size := by
        have e' : b = e ∨ b = it := by simpa using hb
        rcases e' with z | z
        · rw [z]; exact hel
        · rw [z]; exact hil
      rw [upd_ne (Nat.ne_of_lt hb')]
      exact (hf b hb).1
  done := by
    intro X hP hw hK hc i pins s σ H E I hf st hg
    subst hP hw hK
    obtain ⟨⟨old, he⟩, hit, hne⟩ := st
    obtain ⟨xs, hq, hx⟩ := hg
    obtain ⟨its, rv, p, hz⟩ := I.tuple hq
    obtain ⟨f0, f1, f2, f3, f4, f5⟩ := hf it (by simp)
    have hl := rv.length
    exact wpAny_pyNext_enum_endD (draws_end (A := X.A.in1) (I.ok.hd hc) it a its.toArray i (by simp; omega)) he ⟨rfl, hit, p⟩ fun h' eb => ⟨rfl, I.turned (t' := s.toks) (fun b o hb q => eb b o hb q) f0 f1 f3 f4 f5⟩
  self := fun A i s Q E st h => let ⟨⟨_, he⟩, _⟩ := st; wpAny_pyIter_enum he h
/-- enumerate(xs) -/
def iEnumU (K : PySem.W.Frag) (ta : TA) : TI := fun σ H R => ta σ H fun vs H1 => ∃ a xs, vs = [.ref a] ∧ ((SqL K H1 a xs ∧ R (Ite K a) H1) ∨ (SqT K H1 a xs ∧ R (ItEt K a) H1))
theorem pi_enumU {X : Cx} {e : Expr} {ta : TA} {p pos tpos : Pos} {elts : List Expr} {kk : Nat} (hg : Gl X "enumerate") (hm : X.mg "enumerate" = none) (ha : PA X [e] ta) (hs : starEach [e] X.env = [(false, eval e X.env)] := by rfl) :
    PI X (.Tuple elts kk tpos) (.Call (.Name "enumerate" p) [e] [] pos) (iEnumU X.K ta) := by
  refine NoI.keep (fun _ wNoI => ?_) ?_
  simp only [↓ NoI.wrOf wNoI (by
  clear wNoI
  refine ⟨fun pins s σ H R I h => ?_⟩
  refine Call_ (ld_blt I hg hm boot_enumerate (PyProof.Rows.callWith_type1 (thn (ha.run pos pins s σ H _ I h) fun us s1 ⟨vs, H1, I1, r1, q1⟩ => ?_) hs rfl))
  obtain ⟨a, xs, ex, q1⟩ := q1
  subst ex
  cases r1 with
  | cons r rr =>
    cases rr
    cases r
    have fresh : ∀ b, b ∈ [s1.heap.objs.size + 1, s1.heap.objs.size] → FpOk X pins H1 b := fun b hb => by
      have e' : b = s1.heap.objs.size + 1 ∨ b = s1.heap.objs.size := by simpa using hb
      have hle : s1.heap.objs.size ≤ b := by
        rcases e' with z | z
        · rw [z]; exact Nat.le_succ _
        · rw [z]; exact Nat.le_refl _
      exact I1.fpOk hle (I1.hok.fresh hle)
    rcases q1 with ⟨hq, q⟩ | ⟨hq, q⟩
    · obtain ⟨its, rv, p', hz⟩ := I1.list hq
      refine call_enumerate_list p'.isList fun h' he hit hsz hk => wpAny_pyIter_enum he ?_
      have I2 : Inv X pins σ H1 { s1 with heap := h' } := I1.kept (t' := s1.toks) hk
      exact ⟨s1.heap.objs.size + 1, [s1.heap.objs.size + 1, s1.heap.objs.size], _, _, H1, rfl, I2, turn_enum a _ _, ⟨⟨_, he⟩, hit, Nat.succ_ne_self _⟩, fresh, q⟩
    · obtain ⟨its, rv, p', hz⟩ := I1.tuple hq
      obtain ⟨o, ho, _⟩ := id p'
      have lt := Heap.lt_size ho
      refine call_enumT (show s1.heap.IsTuple a its.toArray from p') fun h' he hit hsz hk => wpAny_pyIter_enum he ?_
      have I2 : Inv X pins σ H1 { s1 with heap := h' } := I1.kept (t' := s1.toks) hk
      exact ⟨s1.heap.objs.size + 1, [s1.heap.objs.size + 1, s1.heap.objs.size], _, _, H1, rfl, I2, turn_enumT a _ _ (Nat.ne_of_lt lt) (Nat.ne_of_gt (Nat.lt_succ_of_lt lt)), ⟨⟨_, he⟩, hit, Nat.succ_ne_self _⟩, fresh, q⟩
  )]
  intro _ hNoI
  simpa using (fun (_ : NoI.Sg) => hNoI) [5]
def enumD (ds : List D) : List D := ds.zipIdx.map fun p => .tuple [.int (p.2 : Int), p.1]
theorem enumD_get {ds : List D} {i : Nat} {d : D} (h : ds[i]? = some d) : (enumD ds)[i]? = some (.tuple [.int (i : Int), d]) := by
  simp [enumD, h]
section
variable {K : PySem.W.Frag} {Zc : Addr → Prop} {s : S}
theorem dv_pair {ad : List Addr} {H : Hp} {m : Mem} {i : Nat} {x : V} {d : D} {T : Addr} (M : MR K Zc ad H m) (hT : H T = none) (r : DV K (FZ Zc ad m H) x d) : DV K (FZ Zc ad m (upd H T (.tup [.int (i : Nat), x]))) (.ref T) (.tuple [.int (i : Int), d]) :=
  .tup (.inr ⟨rfl, M.newT_at hT⟩) (.cons (.int _) (.cons (dp_mono (Frm.newT (ad := ad) (m := m) hT).same _ _ r) .nil))
theorem jok_enum {a : Addr} {vs : List V} {ds : List D} {F : Hp} (h : F a = some (.lst vs)) (hv : DVs K F vs ds) : JOk K Zc (Ite K a) (enumD ds) F := by
  refine NoI.keep (fun _ wNoI => ?_) ?_
  simp only [↓ NoI.wrOf wNoI (by
  clear wNoI
  intro i ad H m e M
  have hH : SqL K H a vs := SqL.of (Fz_at (e.nd h rfl))
  have hv' := dpAll_mono e _ _ hv
  have hl : (enumD ds).length = vs.length := by simp [enumD, dpAll_len hv]
  refine ⟨fun hi => ⟨⟨vs, vs[i]'(by omega), hH, List.getElem?_eq_getElem _⟩, fun x H' y => ?_⟩, fun hi => ⟨vs, hH, by omega⟩⟩
  obtain ⟨T, z, rfl, hT, rfl, hz⟩ := y
  obtain ⟨d, hd, r⟩ := dpAll_get' hv' (hz vs hH)
  exact ⟨.inr ⟨T, _, hT, rfl⟩, _, enumD_get hd, dv_pair M hT r⟩
  )]
  intro _ hNoI
  simpa using (fun (_ : NoI.Sg) => hNoI) [5]
theorem jok_enumT {a : Addr} {vs : List V} {ds : List D} {F : Hp} (h : SqT K F a vs) (hv : DVs K F vs ds) : JOk K Zc (ItEt K a) (enumD ds) F := by
  refine NoI.keep (fun _ wNoI => ?_) ?_
  simp only [↓ NoI.wrOf wNoI (by
  clear wNoI
  intro i ad H m e M
  have hH : SqT K H a vs := sqT_same Fz_le (sqT_same e h)
  have hv' := dpAll_mono e _ _ hv
  have hl : (enumD ds).length = vs.length := by simp [enumD, dpAll_len hv]
  refine ⟨fun hi => ⟨⟨vs, vs[i]'(by omega), hH, List.getElem?_eq_getElem _⟩, fun x H' y => ?_⟩, fun hi => ⟨vs, hH, by omega⟩⟩
  obtain ⟨T, z, rfl, hT, rfl, hz⟩ := y
  obtain ⟨d, hd, r⟩ := dpAll_get' hv' (hz vs hH)
  exact ⟨.inr ⟨T, _, hT, rfl⟩, _, enumD_get hd, dv_pair M hT r⟩
  )]
  intro _ hNoI
  simpa using (fun (_ : NoI.Sg) => hNoI) [5]
theorem it_enum {ta : TA} {Ψ : List D → S → Prop} (h : ArD K Zc ta s fun xs s' => ∃ d ds, xs = [d] ∧ seqD d = some ds ∧ Ψ (enumD ds) s') : IterS K Zc (iEnumU K ta) s Ψ := by
  refine NoI.keep (fun _ wNoI => ?_) ?_
  simp only [↓ NoI.wrOf wNoI (by
  clear wNoI
  intro ad H σ R I p
  refine h ad H σ _ I fun vs ad1 H1 svs s1 h1 I1 F1 r1 => ?_
  obtain ⟨xs, hx, d, ds, rfl, hs, k⟩ := h1
  subst hx
  obtain ⟨v, rfl, r⟩ := vrs1 r1
  cases d with
  | list es =>
    cases hs
    obtain ⟨a, ws, rfl, h2, h3⟩ := lst_of (show DV K _ v (.list ds) from r)
    exact ⟨a, ws, rfl, .inl ⟨SqL.of (Fz_at h2), p _ ad1 H1 _ s1 k I1 F1 (jok_enum h2 h3)⟩⟩
  | tuple es =>
    cases hs
    obtain ⟨a, ws, rfl, h2, h3⟩ := tup_of (show DV K _ v (.tuple ds) from r)
    exact ⟨a, ws, rfl, .inr ⟨sqT_same Fz_le h2, p _ ad1 H1 _ s1 k I1 F1 (jok_enumT h2 h3)⟩⟩
  | none => cases hs
  | bool _ => cases hs
  | int _ => cases hs
  | str _ => cases hs
  | dict _ => cases hs
  )]
  intro _ hNoI
  simpa using (fun (_ : NoI.Sg) => hNoI) [5]
end
end SH

/-! sorted(xs), xs a list of data of one kind -/
namespace SH
open PySem PySem.Spec PyProof.Rows L2
variable [WW]
abbrev VD := V × D
def rSortD (K : PySem.W.Frag) : List V → Hp → VK → Prop := fun xs H Q => ∃ (a : Addr) (vs : List V) (ds : List D), xs = [.ref a] ∧ SqL K H a vs ∧ DpAll K H vs ds ∧ PySem.W.AllAlike ds ∧ PySem.W.Sortable ds ∧ (∀ d ∈ ds, d.depth ≤ 50) ∧ ds.length ≤ sizeLine ∧
  ∀ p, H p = none → Q (.ref p) (upd H p (.lst (((vs.zip ds).mergeSort (PySem.W.dataLe false fun q : VD => q.2)).map (·.1))))
theorem each_zip {K : PySem.W.Frag} {H : Hp} {X : Cx} : ∀ {vs : List V} {ds : List D} {us : List Value}, vs.length = ds.length → Vals vs us → PySem.W.EachIs (fun (u : Value) (q : VD) => RelV q.1 u) us (vs.zip ds)
  | [], _, _, _, .nil => .nil
  | v :: vs, d :: ds, _, h, .cons r t => .cons r (each_zip (K := K) (H := H) (X := X) (by simpa using h) t)
  | v :: vs, [], _, h, _ => by simp at h
theorem each_reads {X : Cx} {pins : List (Addr × Obj)} {σ : L2.St} {H : Hp} {s : Shared} (I : L2.Inv X pins σ H s) : ∀ {vs : List V} {ds : List D} {us : List Value}, DpAll X.K H vs ds → Vals vs us → PySem.W.EachIs (fun (u : Value) (q : VD) => ∃ as, Reads s.heap u q.2 as) us (vs.zip ds)
  | _, _, _, .nil, .nil => .nil
  | _, _, _, .cons h1 h2, .cons r t => .cons (Dp.reads I _ _ _ h1 r) (each_reads I h2 t)
theorem vals_of_each : ∀ {us : List Value} {qs : List VD}, PySem.W.EachIs (fun (u : Value) (q : VD) => RelV q.1 u) us qs → Vals (qs.map (·.1)) us
  | _, _, .nil => .nil
  | _, _, .cons r t => .cons r (vals_of_each t)
theorem dpa_len {K : PySem.W.Frag} {H : Hp} : ∀ {vs : List V} {ds : List D}, DpAll K H vs ds → vs.length = ds.length
  | _, _, .nil => rfl
  | _, _, .cons _ t => by simp [dpa_len t]
theorem call_sortD {X : Cx} {k : Nat} (hr : Room k X.A) : CallR X (.builtin "sorted") (rSortD X.K) := by
  refine NoI.keep (fun _ wNoI => ?_) ?_
  simp only [↓ NoI.wrOf wNoI (by
  clear wNoI
  intro pins s σ H xs us Q I r h
  obtain ⟨a, vs, ds, rfl, hq, hd, hal, hsr, hdp, hz, q⟩ := h
  rw [Vals.ref1 r]
  obtain ⟨its, rv, pl, _⟩ := I.list hq
  have hu := hr.units
  have hl := dpa_len hd
  have hsnd : (vs.zip ds).map (fun q : VD => q.2) = ds := List.map_snd_zip (by omega)
  refine PySem.W.sorted_data (enc := fun q : VD => q.2) (R := fun (u : Value) (q : VD) => RelV q.1 u) (bs := vs.zip ds) pl.isList (each_zip (K := X.K) (H := H) (X := X) hl rv) (each_reads I hd rv) (by rw [hsnd]; exact hal) (by rw [hsnd]; exact hsr)
    (by rw [List.length_zip]; omega) (fun b hb => ?_) fun out ho eo => ?_
  · have : b.2 ∈ ds := by rw [← hsnd]; exact List.mem_map_of_mem hb
    have := hdp _ this
    omega
  · obtain ⟨ep, he'⟩ := PyProof.Rows.sortedAll_at s.heap its out.toArray
    have rv2 := vals_of_each eo
    have hlen : (((vs.zip ds).mergeSort (PySem.W.dataLe false fun q : VD => q.2)).map (·.1)).length ≤ sizeLine := by
      rw [List.length_map, List.length_mergeSort, List.length_zip]; omega
    exact ⟨.ref _, upd H (s.heap.objs.size + 1) (.lst _), I.laid (t' := s.toks) (fun _ _ => PyProof.Rows.sortedAll_old) (Nat.le_succ _) ⟨hlen, out, ep, rv2, by simpa using he'⟩, rfl, q _ (I.hok.fresh (Nat.le_succ _))⟩
  )]
  intro _ hNoI
  simpa using (fun (_ : NoI.Sg) => hNoI) [5]
section
variable {K : PySem.W.Frag} {Zc : Addr → Prop} {s : S} {x y : SV} {Φ : SV → S → Prop}
theorem dvs_mem {H : Hp} : ∀ {vs : List V} {ds : List D}, DVs K H vs ds → ∀ q ∈ vs.zip ds, DV K H q.1 q.2
  | _, _, .nil, q, h => by simp at h
  | _, _, .cons r t, q, h => by
    rcases List.mem_cons.mp h with rfl | h
    · exact r
    · exact dvs_mem t q h
theorem dvs_of_all {H : Hp} : ∀ {qs : List VD}, (∀ q ∈ qs, DV K H q.1 q.2) → DVs K H (qs.map (·.1)) (qs.map (·.2))
  | [], _ => .nil
  | q :: qs, h => .cons (h q List.mem_cons_self) (dvs_of_all fun p hp => h p (List.mem_cons_of_mem _ hp))
def sortD (ds : List D) : List D := ds.mergeSort (PySem.W.dataLe false id)
theorem cb_sortD {ds : List D} (h1 : rd s.mem x = some (.list ds)) (ha : PySem.W.AllAlike ds) (hs : PySem.W.Sortable ds) (hd : ∀ d ∈ ds, d.depth ≤ 50) (hn : PyData.hasDictAll ds = false) (hz : ds.length ≤ sizeLine)
    (k : Φ (.own s.mem.length) ⟨s.sl, s.mem ++ [some (.list (sortD ds))]⟩) : CbS K Zc (rSortD K) [x] s Φ := by
  refine NoI.keep (fun _ wNoI => ?_) ?_
  simp only [↓ NoI.wrOf wNoI (by
  clear wNoI
  intro ad H σ vs Q I r p
  obtain ⟨v, rfl, r1⟩ := vrs1 r
  obtain ⟨a, us, rfl, e1, d1⟩ := rd_lst I.mr r1 h1
  refine ⟨a, us, ds, rfl, SqL.of e1, dpAll_of _ _ (dpAll_mono Fz_le _ _ d1) hn, ha, hs, hd, hz, fun q hq => p.lst I k hq ?_⟩
  have e : ((us.zip ds).mergeSort (PySem.W.dataLe false fun q : VD => q.2)).map (·.2) = sortD ds := by
    unfold sortD
    have h2 : (us.zip ds).map (fun q : VD => q.2) = ds := List.map_snd_zip (by rw [dpAll_len d1]; exact Nat.le_refl _)
    conv => rhs; rw [← h2]
    exact List.map_mergeSort (fun a _ b _ => rfl)
  rw [← e]
  exact dvs_of_all fun q hq => dvs_mem d1 q ((List.mergeSort_perm _ _).mem_iff.mp hq)
  )]
  intro _ hNoI
  simpa using (fun (_ : NoI.Sg) => hNoI) [5]
end
end SH

/-! in, not in, of any data -/
namespace SH
open PySem PySem.Spec PyProof.Rows L2
variable [WW]
def rInD (K : PySem.W.Frag) (neg : Bool) : R2 := fun x y H Q => ∃ (d e : D) (ds : List D), seqD e = some ds ∧ Dp K H x d ∧ Dp K H y e ∧ d.canLay0 = true ∧ PyData.canLayAll0 ds = true ∧ d.depth ≤ 60 ∧ Q (.bl (if neg then !(ds.any fun z => PyData.eqv z d) else ds.any fun z => PyData.eqv z d)) H
theorem op_inD {X : Cx} (hu : X.A.units + 64 < cLine) : OpR X (compareOp .In) (rInD X.K false) := by
  refine NoI.keep (fun _ wNoI => ?_) ?_
  simp only [↓ NoI.wrOf wNoI (by
  clear wNoI
  intro pins s σ H x y v u Q I rx ry h
  obtain ⟨d, e, ds, hs, hd, he, sd, se, hz, q⟩ := h
  obtain ⟨as, r1⟩ := Dp.reads I d x v hd rx
  obtain ⟨bs, r2⟩ := Dp.reads I e y u he ry
  cases e with
  | list es => cases hs; exact SeqAt.in_list_reads r2 r1 se sd (by omega) ⟨.bl _, H, I, rfl, q⟩
  | tuple es => cases hs; exact SeqAt.in_tuple_reads r2 r1 se sd (by omega) ⟨.bl _, H, I, rfl, q⟩
  | none => cases hs
  | bool _ => cases hs
  | int _ => cases hs
  | str _ => cases hs
  | dict _ => cases hs
  )]
  intro _ hNoI
  simpa using (fun (_ : NoI.Sg) => hNoI) [5]
theorem op_niD {X : Cx} (hu : X.A.units + 64 < cLine) : OpR X (compareOp .NotIn) (rInD X.K true) := by
  refine NoI.keep (fun _ wNoI => ?_) ?_
  simp only [↓ NoI.wrOf wNoI (by
  clear wNoI
  intro pins s σ H x y v u Q I rx ry h
  obtain ⟨d, e, ds, hs, hd, he, sd, se, hz, q⟩ := h
  obtain ⟨as, r1⟩ := Dp.reads I d x v hd rx
  obtain ⟨bs, r2⟩ := Dp.reads I e y u he ry
  cases e with
  | list es => cases hs; exact SeqAt.notIn_list_reads r2 r1 se sd (by omega) ⟨.bl _, H, I, rfl, q⟩
  | tuple es => cases hs; exact SeqAt.notIn_tuple_reads r2 r1 se sd (by omega) ⟨.bl _, H, I, rfl, q⟩
  | none => cases hs
  | bool _ => cases hs
  | int _ => cases hs
  | str _ => cases hs
  | dict _ => cases hs
  )]
  intro _ hNoI
  simpa using (fun (_ : NoI.Sg) => hNoI) [5]
def rInX (K : PySem.W.Frag) (neg : Bool) : R2 := fun x y H Q => rInU K neg x y H Q ∨ rInD K neg x y H Q ∨ rInV K neg x y H Q
theorem op_inX {X : Cx} (hu : X.A.units + 64 < cLine) : OpR X (compareOp .In) (@rInX ⟨X.w⟩ X.K false) := opr_or (op_inU (by omega)) (opr_or (op_inD hu) (op_inV hu))
theorem op_niX {X : Cx} (hu : X.A.units + 64 < cLine) : OpR X (compareOp .NotIn) (@rInX ⟨X.w⟩ X.K true) := opr_or (op_niU (by omega)) (opr_or (op_niD hu) (op_niV hu))
section
variable {K : PySem.W.Frag} {Zc : Addr → Prop} {s : S} {x y : SV} {Φ : SV → S → Prop}
theorem os_inA {neg : Bool} {d e : D} {ds : List D} (h1 : rd s.mem x = some d) (h2 : rd s.mem y = some e) (hs : seqD e = some ds) (sd : d.canLay0 = true) (se : PyData.canLayAll0 ds = true) (hz : d.depth ≤ 60)
    (k : Φ (.dat (.bool (if neg then !(ds.any fun z => PyData.eqv z d) else ds.any fun z => PyData.eqv z d))) s) : OpS K Zc (rInX K neg) x y s Φ := by
  refine NoI.keep (fun _ wNoI => ?_) ?_
  simp only [↓ NoI.wrOf wNoI (by
  clear wNoI
  intro ad H σ v u Q I r1 r2 p
  have hn : e.hasDict = false := by
    cases e with
    | list es => cases hs; simpa [PyData.hasDict] using PyData.hasDict_of_canLay (.list ds) (by simpa [PyData.canLay0] using se)
    | tuple es => cases hs; simpa [PyData.hasDict] using PyData.hasDict_of_canLay (.tuple ds) (by simpa [PyData.canLay0] using se)
    | none => cases hs
    | bool _ => cases hs
    | int _ => cases hs
    | str _ => cases hs
    | dict _ => cases hs
  exact .inr (.inl ⟨d, e, ds, hs, dp_of _ _ (rd_D I.mr r1 h1) (PyData.hasDict_of_canLay _ sd), dp_of _ _ (rd_D I.mr r2 h2) hn, sd, se, hz, p.val I k (sv := .dat _) (.bl _)⟩)
  )]
  intro _ hNoI
  simpa using (fun (_ : NoI.Sg) => hNoI) [5]
theorem os_xI {neg : Bool} {i : Int} {ns : List Int} {d : D} (h1 : rd s.mem x = some (.int i)) (h2 : rd s.mem y = some d) (hs : seqD d = some (ns.map PyData.int)) (k : Φ (.dat (.bool (if neg then !decide (i ∈ ns) else decide (i ∈ ns)))) s) : OpS K Zc (rInX K neg) x y s Φ :=
  fun ad H σ v u Q I r1 r2 p => .inl (os_inI h1 h2 hs k ad H σ v u Q I r1 r2 p)
end
/-! sorted, all of them -/
def rSortX (K : PySem.W.Frag) : List V → Hp → VK → Prop := fun xs H Q => rSortU K xs H Q ∨ rSortD K xs H Q
theorem call_sortX {X : Cx} {k : Nat} (hr : Room k X.A) : CallR X (.builtin "sorted") (rSortX X.K) := by
  intro pins s σ H vs us Q I r h
  rcases h with h | h
  · exact call_sortU pins s σ H vs us Q I r h
  · exact call_sortD hr pins s σ H vs us Q I r h
section
variable {K : PySem.W.Frag} {Zc : Addr → Prop} {s : S} {x y : SV} {Φ : SV → S → Prop}
theorem cb_sortXS {xs : List Str} (h1 : rd s.mem x = some (.list (xs.map PyData.str))) (hz : xs.length < 64) (k : ∀ ys : List Str, ys.Perm xs → sortedS ys = true → Φ (.own s.mem.length) ⟨s.sl, s.mem ++ [some (.list (ys.map PyData.str))]⟩) : CbS K Zc (rSortX K) [x] s Φ :=
  fun ad H σ vs Q I r p => .inl (cb_sortS h1 hz k ad H σ vs Q I r p)
theorem cb_sortXD {ds : List D} (h1 : rd s.mem x = some (.list ds)) (ha : PySem.W.AllAlike ds) (hs : PySem.W.Sortable ds) (hd : ∀ d ∈ ds, d.depth ≤ 50) (hn : PyData.hasDictAll ds = false) (hz : ds.length ≤ sizeLine)
    (k : Φ (.own s.mem.length) ⟨s.sl, s.mem ++ [some (.list (sortD ds))]⟩) : CbS K Zc (rSortX K) [x] s Φ :=
  fun ad H σ vs Q I r p => .inr (cb_sortD h1 ha hs hd hn hz k ad H σ vs Q I r p)
end
end SH

/-! dicts whose keys are tuples -/
namespace SH
open PySem PySem.Spec PyProof.Rows L2
section
variable [WW] (K : PySem.W.Frag)
/-- {k: v}, k a tuple -/
def tDisp1 (tk tv : TE) : TE := fun σ H Q => ∀ p, H p = none → tk σ (upd H p (.dK [])) fun x H1 => tv σ H1 fun y H2 => IsXw H2 p [] ∧ ∃ a nk, x = .ref a ∧ DV K H2 (.ref a) nk.data ∧ nk.depth ≤ 8 ∧ Q (.ref p) (upd H2 p (DXo p [(nk, a, y)]))
end
theorem pe_disp1 {X : Cx} {pos : Pos} {k v : Expr} {tk tv : TE} (hu : X.A.units + 64 < cLine) (hk : PE X k tk) (hv : PE X v tv) : PE X (.Dict [some k] [v] pos) (@tDisp1 ⟨X.w⟩ X.K tk tv) := by
  refine NoI.keep (fun _ wNoI => ?_) ?_
  simp only [↓ NoI.wrOf wNoI (by
  clear wNoI
  letI : WW := ⟨X.w⟩
  refine ⟨fun pins s σ H Q I q => ?_⟩
  have hn := I.hok.fresh (Nat.le_refl s.heap.objs.size)
  have I1 := I.laid (a := s.heap.objs.size) (o := .dK []) (h' := s.heap.push { cls := .type "dict", data := .dict #[] }) (t' := s.toks) (fun _ _ q => Heap.get?_push_of_some _ q) (Nat.le_refl _) (dk_empty s.heap I.big)
  rw [arm_eval_Dict, show (evalEachOpt [some k] X.env).zip ((evalEach [v] X.env).map fun v => do let x ← v; standAt pos; pure x) = (pairTrees [some k] [v] X.env pos).map (fun p => (some p.1, p.2)) from rfl,
    dictDisplay_pairs _ (by intro z; cases z) (by show 1 < 17; decide)]
  refine wpAny_bind (wpAny_standAt (wpAny_bind (wpAny_subDictH (knd := nestedKind X.prog X.w) (by show X.A.units + 8 < cLine; omega) (by show 1 ≤ 15; decide) ?_)))
  refine thn ((pps_cons hk hv pps_nil).run pins _ σ _ (fun ps H2 => match ps with
    | [(x, y)] => IsXw H2 s.heap.objs.size [] ∧ ∃ a nk, x = .ref a ∧ DV X.K H2 (.ref a) nk.data ∧ nk.depth ≤ 8 ∧ Q (.ref s.heap.objs.size) (upd H2 s.heap.objs.size (DXo s.heap.objs.size [(nk, a, y)]))
    | _ => False) I1 (q _ hn)) ?_
  rintro ws s2 ⟨ps, H2, I2, rel, z⟩
  match ps, rel, z with
  | [], _, z => exact z.elim
  | _ :: _ :: _, _, z => exact z.elim
  | [(x, y)], rel, z =>
  obtain ⟨e, a, nk, rfl, dv, hd, q2⟩ := z
  cases rel with
  | cons r t =>
    cases t
    rename_i w2
    obtain ⟨w3, w4⟩ := w2
    obtain ⟨r1, r2⟩ := r
    cases (show w3 = Value.ref a from r1)
    have hmu := IsXw.mut e
    obtain ⟨ys0, r0, d0, _, hs⟩ := isx_of I2 (IsXw.rd e) .nil
    cases r0
    refine ⟨[(nk, a, w4)], ⟨rfl, rfl, ⟨nk_is I2 nk _ _ dv rfl, hd⟩, trivial⟩, d0, fun h' tk2 d1 hsb => wpAny_pure ⟨.ref s.heap.objs.size, _, ?_, rfl, q2⟩⟩
    have he : ∃ o, h'.get? s.heap.objs.size = some o := by obtain ⟨o, _, _, g, _⟩ := d1; exact ⟨o, g⟩
    exact d_write I2 hmu hsb he (dx_new ⟨by rw [sizeLine_eq]; simp, by simpa using hd⟩ hs (.cons ⟨rfl, rfl, r2⟩ .nil) d1)
  )]
  intro _ hNoI
  simpa using (fun (_ : NoI.Sg) => hNoI) [5]
section
variable [WW] {K : PySem.W.Frag} {Zc : Addr → Prop} {s : S} {x y : SV} {Φ : SV → S → Prop}
theorem rd_x {ad : List Addr} {H : Hp} {m : Mem} {v : V} {sv : SV} {es : List (TK × D)} (h : MR K Zc ad H m) (r : VR K Zc ad m H v sv) (e : rd m sv = some (.dict (dx es))) :
    ∃ a xs, v = .ref a ∧ IsX H a xs ∧ KX K (FZ Zc ad m H) xs es := by
  refine NoI.keep (fun _ wNoI => ?_) ?_
  simp only [↓ NoI.wrOf wNoI (by
  clear wNoI
  cases sv with
  | dat z =>
    cases e
    obtain ⟨a, xs, rfl, h1, h2⟩ := dv_x r
    refine ⟨a, xs, rfl, ?_, h1⟩
    rcases h2 with h2 | ⟨h2, h3⟩
    · exact .inl (rd_same h2 Fz_le)
    · exact .inr ⟨h2, rd_same h3 Fz_le⟩
  | own i =>
    obtain ⟨a, o, rfl, _, q2, q3⟩ := rd_obj h r (rd_own e)
    obtain ⟨xs, h1, h2⟩ := cell_x q3
    refine ⟨a, xs, rfl, ?_, h1⟩
    rcases h2 with rfl | ⟨h2, rfl⟩
    · exact .inl (.inl q2)
    · exact .inr ⟨h2, .inl q2⟩
  | ro _ => cases e
  | rng _ _ => cases e
  | exn _ _ _ => cases e
  | un => cases e
  )]
  intro _ hNoI
  simpa using (fun (_ : NoI.Sg) => hNoI) [5]
theorem ev_disp1 {tk tv : TE} (h : EvS K Zc tk ⟨s.sl, s.mem ++ [some (.dict [])]⟩ (asD fun kd s1 => EvS K Zc tv s1 (asD fun vd s2 => s2.mem[s.mem.length]? = some (some (.dict [])) ∧ ∃ nk : TK, kd = kx nk ∧ (NestedKey.tup nk).depth ≤ 8 ∧
    Φ (.own s.mem.length) ⟨s2.sl, s2.mem.set s.mem.length (some (.dict (dx [(nk, vd)])))⟩))) : EvS K Zc (tDisp1 K tk tv) s Φ := by
  refine NoI.keep (fun _ wNoI => ?_) ?_
  simp only [↓ NoI.wrOf wNoI (by
  clear wNoI
  intro ad H σ Q I p pa hpa
  have I1 := I.newO (ds := .dict []) hpa (.dK (kvs := []) (es := []) rfl .nil)
  have F1 : Frm Zc s.mem.length ad s.mem H (adN ad s.mem pa) (s.mem ++ [some (.dict [])]) (upd H pa (.dK [])) := Frm.newO I.mr hpa
  refine ev_asD (Φ := fun sv s1 => ∃ kd, sv = .dat kd ∧ EvS K Zc tv s1 (asD fun vd s2 => s2.mem[s.mem.length]? = some (some (.dict [])) ∧ ∃ nk : TK, kd = kx nk ∧ (NestedKey.tup nk).depth ≤ 8 ∧
    Φ (.own s.mem.length) ⟨s2.sl, s2.mem.set s.mem.length (some (.dict (dx [(nk, vd)])))⟩)) h (fun d s' q => ⟨d, rfl, q⟩) _ _ σ _ I1 ?_
  rintro v1 ad1 H1 sv s1 ⟨kd, rfl, h1⟩ I2 F2 r1
  refine ev_asD (Φ := fun sv s2 => ∃ vd, sv = .dat vd ∧ s2.mem[s.mem.length]? = some (some (.dict [])) ∧ ∃ nk : TK, kd = kx nk ∧ (NestedKey.tup nk).depth ≤ 8 ∧
    Φ (.own s.mem.length) ⟨s2.sl, s2.mem.set s.mem.length (some (.dict (dx [(nk, vd)])))⟩) h1 (fun d s' q => ⟨d, rfl, q⟩) ad1 H1 σ _ I2 ?_
  rintro v2 ad2 H2 sv s2 ⟨vd, rfl, e, nk, rfl, hd, k⟩ I3 F3 r2
  have l1 : s.mem.length < (s.mem ++ [some (PyData.dict [])]).length := by simp
  have aD : ad2[s.mem.length]? = some pa := by rw [F3.pre _ (Nat.lt_of_lt_of_le l1 F2.le), F2.pre _ l1, adN_at I.mr.adl]
  obtain ⟨b, o, q1, q2, q3⟩ := I3.mr.cell _ _ e
  rw [aD] at q1
  cases q1
  obtain ⟨xs, c1, c2⟩ := cell_x (es := []) q3
  cases c1
  have rk : DV K (FZ Zc ad2 s2.mem H2) v1 (kx nk) := r1.frm F3
  obtain ⟨ka, rfl⟩ : ∃ ka, v1 = .ref ka := by cases rk; exact ⟨_, rfl⟩
  refine ⟨?_, ka, .tup nk, rfl, dp_mono Fz_le _ _ rk, hd, ?_⟩
  · rcases c2 with rfl | ⟨_, rfl⟩
    · exact .inl q2
    · exact .inr ⟨rfl, q2⟩
  · have F13 := (F1.trans F2 (by simp)).trans F3 (Nat.le_trans (by simp) F2.le)
    refine p _ ad2 _ (.own s.mem.length) _ k (I3.put e aD (.dX (KX.dks (.cons rk r2 .nil)))) (F13.trans (Frm.put e aD) F13.le) ?_
    have := (List.getElem?_eq_some_iff.mp e).1
    exact ⟨by simpa using this, pa, aD, rfl⟩
  )]
  intro _ hNoI
  simpa using (fun (_ : NoI.Sg) => hNoI) [5]
/-- {} -/
theorem ev_dnew (k : Φ (.own s.mem.length) ⟨s.sl, s.mem ++ [some (.dict [])]⟩) : EvS K Zc tDNewK s Φ := by
  intro ad H σ Q I p q hq
  exact p.cell I k hq (.dK (kvs := []) (es := []) rfl .nil)
end
end SH

/-! more built-ins; statements that are never met; any data -/
namespace SH
open PySem PySem.Spec PyProof.Rows L2
variable [WW]
def rMin2 : List V → Hp → VK → Prop := fun xs H Q => ∃ i j, xs = [.int i, .int j] ∧ Q (.int (if j < i then j else i)) H
def rMax2 : List V → Hp → VK → Prop := fun xs H Q => ∃ i j, xs = [.int i, .int j] ∧ Q (.int (if j > i then j else i)) H
def rMinU (K : PySem.W.Frag) : List V → Hp → VK → Prop := fun xs H Q => rMin2 xs H Q ∨ rMin K xs H Q
def rMaxU (K : PySem.W.Frag) : List V → Hp → VK → Prop := fun xs H Q => rMax2 xs H Q ∨ rMax K xs H Q
def tUpper (to : TE) : TE := tM0 (fun x xs H Q => ∃ a, x = .str a ∧ xs = [] ∧ a.length ≤ 5592405 ∧ Q (.str (Txt.upper a)) H) to
section
variable {K : PySem.W.Frag} {Zc : Addr → Prop} {s : S} {x y : SV} {Φ : SV → S → Prop}
theorem cb_min2 {i j : Int} (h1 : rd s.mem x = some (.int i)) (h2 : rd s.mem y = some (.int j)) (k : Φ (.dat (.int (min i j))) s) : CbS K Zc (rMinU K) [x, y] s Φ := by
  refine NoI.keep (fun _ wNoI => ?_) ?_
  simp only [↓ NoI.wrOf wNoI (by
  clear wNoI
  intro ad H σ vs Q I r p
  obtain ⟨v, u, rfl, r1, r2⟩ := vrs2 r
  rw [rd_int I.mr r1 h1, rd_int I.mr r2 h2]
  refine .inl ⟨i, j, rfl, ?_⟩
  rw [show (if j < i then j else i) = min i j by split <;> omega]
  exact p.val I k (sv := .dat _) (.int _)
  )]
  intro _ hNoI
  simpa using (fun (_ : NoI.Sg) => hNoI) [5]
theorem cb_max2 {i j : Int} (h1 : rd s.mem x = some (.int i)) (h2 : rd s.mem y = some (.int j)) (k : Φ (.dat (.int (max i j))) s) : CbS K Zc (rMaxU K) [x, y] s Φ := by
  refine NoI.keep (fun _ wNoI => ?_) ?_
  simp only [↓ NoI.wrOf wNoI (by
  clear wNoI
  intro ad H σ vs Q I r p
  obtain ⟨v, u, rfl, r1, r2⟩ := vrs2 r
  rw [rd_int I.mr r1 h1, rd_int I.mr r2 h2]
  refine .inl ⟨i, j, rfl, ?_⟩
  rw [show (if j > i then j else i) = max i j by split <;> omega]
  exact p.val I k (sv := .dat _) (.int _)
  )]
  intro _ hNoI
  simpa using (fun (_ : NoI.Sg) => hNoI) [5]
theorem ev_upper {to : TE} (h : EvS K Zc to s fun x s1 => ∃ z, rd s1.mem x = some (.str z) ∧ z.length ≤ 5592405 ∧ Φ (.dat (.str (Txt.upper z))) s1) : EvS K Zc (tUpper to) s Φ := by
  refine NoI.keep (fun _ wNoI => ?_) ?_
  simp only [↓ NoI.wrOf wNoI (by
  clear wNoI
  intro ad H σ Q I p
  refine h ad H σ _ I fun v ad1 H1 x s1 h1 I1 F1 r1 => ?_
  obtain ⟨z, e, hz, k⟩ := h1
  rw [rd_str I1.mr r1 e]
  exact ⟨⟨z, rfl⟩, z, rfl, rfl, hz, (p.step F1).val I1 k (sv := .dat _) (.str _)⟩
  )]
  intro _ hNoI
  simpa using (fun (_ : NoI.Sg) => hNoI) [5]
end
/-! ### any data: strings of plain signs, ints of no great size -/
mutual
def asc : D → Bool
  | .none | .bool _ => true
  | .int i => decide (i.natAbs < 10 ^ 50)
  | .str x => x.cps.toList.all fun c => decide (c < 128)
  | .list xs | .tuple xs => ascAll xs
  | .dict kvs => ascKv kvs
def ascAll : List D → Bool
  | [] => true
  | x :: xs => asc x && ascAll xs
def ascKv : List (D × D) → Bool
  | [] => true
  | (k, v) :: r => asc k && asc v && ascKv r
end
theorem int_len {i : Int} (h : i.natAbs < 10 ^ 50) : (toString i : Str).length ≤ 51 := by
  have := int_text_length_le10 (a := i) (k := 50) (by decide) h
  show (Str.ofString (toString i)).length ≤ 51
  rw [PySem.ofString_length]
  exact this
theorem asc_all : ∀ {ds : List D}, ascAll ds = true ↔ ∀ d ∈ ds, asc d = true
  | [] => by simp [ascAll]
  | d :: ds => by simp [ascAll, asc_all (ds := ds)]
theorem wt_app : ∀ (xs ys : List D), PyData.weightAll (xs ++ ys) = PyData.weightAll xs + PyData.weightAll ys
  | [], ys => by simp [PyData.weightAll]
  | x :: xs, ys => by simp only [List.cons_append, PyData.weightAll, wt_app xs ys]; omega
theorem dp_app : ∀ (xs ys : List D), PyData.depthAll (xs ++ ys) = max (PyData.depthAll xs) (PyData.depthAll ys)
  | [], ys => by simp [PyData.depthAll]
  | x :: xs, ys => by simp only [List.cons_append, PyData.depthAll, dp_app xs ys]; omega
theorem wt_len : ∀ (xs : List D), xs.length ≤ PyData.weightAll xs
  | [] => Nat.zero_le _
  | x :: xs => by simp only [List.length_cons, PyData.weightAll]; have := wt_len xs; omega
theorem wt_mem : ∀ {xs : List D} {d : D}, d ∈ xs → d.weight + 1 ≤ PyData.weightAll xs
  | x :: xs, d, h => by
    simp only [PyData.weightAll]
    rcases List.mem_cons.mp h with rfl | h
    · omega
    · have := wt_mem h; omega
theorem dp_mem : ∀ {xs : List D} {d : D}, d ∈ xs → d.depth ≤ PyData.depthAll xs
  | x :: xs, d, h => by
    simp only [PyData.depthAll]
    rcases List.mem_cons.mp h with rfl | h
    · omega
    · have := dp_mem h; omega
theorem dp_le : ∀ {xs : List D} {k : Nat}, (∀ d ∈ xs, d.depth ≤ k) → PyData.depthAll xs ≤ k
  | [], _, _ => Nat.zero_le _
  | x :: xs, k, h => by
    simp only [PyData.depthAll]
    have := h x List.mem_cons_self
    have := dp_le (xs := xs) fun d hd => h d (List.mem_cons_of_mem _ hd)
    omega
structure Any (W k : Nat) (d : D) : Prop where
  as : asc d = true
  wt : d.weight ≤ W
  dp : d.depth ≤ k
structure AnyA (W k : Nat) (ds : List D) : Prop where
  as : ascAll ds = true
  wt : PyData.weightAll ds ≤ W
  dp : PyData.depthAll ds ≤ k
theorem Any.less {W V k j : Nat} {d : D} (h : Any W k d) (a : W ≤ V) (b : k ≤ j) : Any V j d := ⟨h.as, Nat.le_trans h.wt a, Nat.le_trans h.dp b⟩
theorem AnyA.less {W V k j : Nat} {d : List D} (h : AnyA W k d) (a : W ≤ V) (b : k ≤ j) : AnyA V j d := ⟨h.as, Nat.le_trans h.wt a, Nat.le_trans h.dp b⟩
theorem AnyA.nil {W k : Nat} : AnyA W k [] := ⟨rfl, Nat.zero_le _, Nat.zero_le _⟩
theorem AnyA.cons {W V k : Nat} {d : D} {ds : List D} (h : Any W k d) (t : AnyA V k ds) : AnyA (W + 1 + V) k (d :: ds) :=
  ⟨by simp [ascAll, h.as, t.as], by simp only [PyData.weightAll]; have := h.wt; have := t.wt; omega, by simp only [PyData.depthAll]; have := h.dp; have := t.dp; omega⟩
theorem AnyA.app {W V k : Nat} {ds es : List D} (h : AnyA W k ds) (t : AnyA V k es) : AnyA (W + V) k (ds ++ es) :=
  ⟨asc_all.mpr fun d hd => (List.mem_append.mp hd).elim (asc_all.mp h.as d) (asc_all.mp t.as d), by rw [wt_app]; have := h.wt; have := t.wt; omega, by rw [dp_app]; have := h.dp; have := t.dp; omega⟩
theorem AnyA.tup {W k : Nat} {ds : List D} (h : AnyA W k ds) : Any W (k + 1) (.tuple ds) := ⟨by simpa [asc] using h.as, by simpa [PyData.weight] using h.wt, by have := h.dp; simp [PyData.depth]; omega⟩
theorem AnyA.lst {W k : Nat} {ds : List D} (h : AnyA W k ds) : Any W (k + 1) (.list ds) := ⟨by simpa [asc] using h.as, by simpa [PyData.weight] using h.wt, by have := h.dp; simp [PyData.depth]; omega⟩
theorem Any.items {W k : Nat} {ds : List D} (h : Any W k (.tuple ds)) : AnyA W (k - 1) ds ∧ 1 ≤ k := by
  have h3 := h.dp
  simp only [PyData.depth] at h3
  exact ⟨⟨by simpa [asc] using h.as, by simpa [PyData.weight] using h.wt, by omega⟩, by omega⟩
theorem AnyA.sub {W k : Nat} {ds es : List D} (h : AnyA W k ds) (s : List.Sublist es ds) : AnyA W k es := by
  refine NoI.keep (fun _ wNoI => ?_) ?_
  simp only [↓ NoI.wrOf wNoI (by
  clear wNoI
  have key : ∀ {a b : List D}, List.Sublist a b → PyData.weightAll a ≤ PyData.weightAll b := by
    intro a b s
    induction s with
    | slnil => exact Nat.le_refl _
    | cons x _ ih => simp only [PyData.weightAll]; omega
    | cons_cons x _ ih => simp only [PyData.weightAll]; omega
  exact ⟨asc_all.mpr fun d hd => asc_all.mp h.as d (s.subset hd), Nat.le_trans (key s) h.wt, dp_le fun d hd => Nat.le_trans (dp_mem (s.subset hd)) h.dp⟩
  )]
  intro _ hNoI
  simpa using (fun (_ : NoI.Sg) => hNoI) [5]
theorem AnyA.mem {W k : Nat} {ds : List D} {d : D} (h : AnyA W k ds) (hd : d ∈ ds) : Any W k d := ⟨asc_all.mp h.as d hd, by have := wt_mem hd; have := h.wt; omega, Nat.le_trans (dp_mem hd) h.dp⟩
theorem AnyA.len {W k : Nat} {ds : List D} (h : AnyA W k ds) : ds.length ≤ W := Nat.le_trans (wt_len ds) h.wt
theorem AnyA.of {V k : Nat} : ∀ {ds : List D}, (∀ d ∈ ds, Any V k d) → AnyA ((V + 1) * ds.length) k ds
  | [], _ => .nil
  | d :: ds, h => by
    have := AnyA.cons (h d List.mem_cons_self) (AnyA.of (ds := ds) fun e he => h e (List.mem_cons_of_mem _ he))
    rw [List.length_cons, Nat.mul_add, Nat.mul_one, Nat.add_comm]
    exact this
mutual
theorem asc_show : ∀ d : D, asc d = true → d.leavesShort 64 = true ∧ d.showable = true
  | .none, _ => ⟨rfl, rfl⟩
  | .bool _, _ => ⟨rfl, rfl⟩
  | .int i, h => by
    have h : i.natAbs < 10 ^ 50 := by simpa [asc] using h
    refine ⟨?_, ?_⟩
    · have h5 := Nat.le_trans (int_len h) (show 51 ≤ 64 by decide)
      simp only [PyData.leavesShort, PyData.shown]
      exact decide_eq_true h5
    · simp only [PyData.showable, decide_eq_true_eq]
      by_cases z : i.natAbs = 0
      · rw [z]; decide
      · exact (Nat.log2_lt z).mpr (Nat.lt_trans h (by decide +kernel))
  | .str x, h => by
    refine ⟨?_, rfl⟩
    simp only [asc, List.all_eq_true, decide_eq_true_eq] at h
    simp only [PyData.leavesShort, List.all_eq_true, decide_eq_true_eq]
    intro c hc
    have := h c hc
    omega
  | .list xs, h => by simpa [PyData.leavesShort, PyData.showable] using ascAll_show xs (by simpa [asc] using h)
  | .tuple xs, h => by simpa [PyData.leavesShort, PyData.showable] using ascAll_show xs (by simpa [asc] using h)
  | .dict xs, h => by simpa [PyData.leavesShort, PyData.showable] using ascKv_show xs (by simpa [asc] using h)
theorem ascAll_show : ∀ ds : List D, ascAll ds = true → PyData.leavesShortAll 64 ds = true ∧ PyData.showableAll ds = true
  | [], _ => ⟨rfl, rfl⟩
  | d :: ds, h => by
    simp only [ascAll, Bool.and_eq_true] at h
    have h1 := asc_show d h.1
    have h2 := ascAll_show ds h.2
    simp [PyData.leavesShortAll, PyData.showableAll, h1, h2]
theorem ascKv_show : ∀ ds : List (D × D), ascKv ds = true → PyData.leavesShortKv 64 ds = true ∧ PyData.showableKv ds = true
  | [], _ => ⟨rfl, rfl⟩
  | (k, v) :: ds, h => by
    simp only [ascKv, Bool.and_eq_true] at h
    have h1 := asc_show k h.1.1
    have h2 := asc_show v h.1.2
    have h3 := ascKv_show ds h.2
    simp [PyData.leavesShortKv, PyData.showableKv, h1, h2, h3]
end
theorem Any.shown {W k : Nat} {d : D} (h : Any W k d) : d.shown.length ≤ 66 * W + 64 := by
  have := PyData.shown_le 64 (by decide) d (asc_show d h.as).1
  have := h.wt
  omega
end SH

/-! [1 for x in xs if ..], held against [] -/
namespace SH
open PySem PySem.Spec PyProof.Rows L2
variable [WW]
def ones (p : D → Bool) (ds : List D) : List D := ds.filterMap fun d => if p d = true then some (.int 1) else none
theorem ones_one {p : D → Bool} {ds : List D} : ∀ d ∈ ones p ds, d = .int 1 := by
  intro d hd
  obtain ⟨e, _, h⟩ := List.mem_filterMap.mp hd
  split at h
  · exact (Option.some.inj h).symm
  · cases h
theorem ones_nil {p : D → Bool} : ∀ {ds : List D}, (ones p ds).isEmpty = !ds.any p
  | [] => rfl
  | d :: ds => by
    unfold ones
    rw [List.filterMap_cons, List.any_cons]
    cases q : p d with
    | true => simp
    | false => simpa [ones] using ones_nil (p := p) (ds := ds)
theorem sh_ones : ∀ {l : List D}, (∀ d ∈ l, d = .int 1) → PyData.canLayAll0 l = true ∧ PyData.depthAll l = 0
  | [], _ => ⟨rfl, rfl⟩
  | d :: l, h => by
    obtain ⟨h1, h2⟩ := sh_ones (l := l) fun e he => h e (List.mem_cons_of_mem _ he)
    rw [h d List.mem_cons_self]
    refine ⟨?_, ?_⟩
    · show (PyData.canLay0 (.int 1) && PyData.canLayAll0 l) = true
      rw [h1]; rfl
    · show max (PyData.depth (.int 1)) (PyData.depthAll l) = 0
      rw [h2]; rfl
theorem sh_onesL {p : D → Bool} {ds : List D} : SeqAt.shaped (.list (ones p ds)) = true := by
  obtain ⟨h1, h2⟩ := sh_ones (l := ones p ds) ones_one
  unfold SeqAt.shaped
  simp [PyData.canLay0, PyData.depth, h1, h2]
theorem eqv_nilL {l : List D} : PyData.eqv (.list l) (.list []) = l.isEmpty := by
  cases l <;> simp [PyData.eqv, PyData.eqvAll]
section
variable {K : PySem.W.Frag} {Zc : Addr → Prop} {s : S} {x y : SV} {Φ : SV → S → Prop}
theorem os_neO {p : D → Bool} {ds : List D} (h1 : rd s.mem x = some (.list (ones p ds))) (h2 : rd s.mem y = some (.list [])) (k : Φ (.dat (.bool (ds.any p))) s) : OpS K Zc (rNeU K) x y s Φ := by
  refine os_ne h1 h2 sh_onesL rfl ?_
  rw [eqv_nilL, ones_nil, Bool.not_not]
  exact k
theorem os_eqO {p : D → Bool} {ds : List D} (h1 : rd s.mem x = some (.list (ones p ds))) (h2 : rd s.mem y = some (.list [])) (k : Φ (.dat (.bool (!ds.any p))) s) : OpS K Zc (rEqU K) x y s Φ := by
  refine os_eq h1 h2 sh_onesL rfl ?_
  rw [eqv_nilL, ones_nil]
  exact k
end
theorem back {sl : List SV} {mem m' : Mem} {Φ : SV → S → Prop} {d : D} (k : Φ (.dat d) ⟨sl, mem⟩) : backP ⟨sl, mem⟩ Φ (.dat d) m' := k
end SH

/-! defs that raise an own error with fields of data, and those that catch it -/
namespace SH
open PySem PySem.Spec PyProof.Rows L2
variable [WW]

/-- an error: its class by name, its fields (the last stored first) -/
structure XD where
  cl : Str
  fs : List (Str × D)
def clsA (K : PySem.W.Frag) (x : Str) : Addr := match PySem.W.nsIn K mainGlobals x with
  | some (some (.ref C)) => C
  | _ => 0
/-- it flies -/
def XR (K : PySem.W.Frag) (F : Hp) (x : XD) (cls : Value) (d : Option Addr) : Prop := cls = .ref (clsA K x.cl) ∧ ∃ dx, d = some dx ∧ XdR K F dx x.fs
theorem XR.same {K : PySem.W.Frag} {F F' : Hp} {x : XD} {cls : Value} {d : Option Addr} (h : XR K F x cls d) (e : Same F F') : XR K F' x cls d := by
  obtain ⟨h1, dx, h2, h3⟩ := h
  exact ⟨h1, dx, h2, h3.same e⟩
/-- what an error in the air is to meet -/
def XW (K : PySem.W.Frag) (Zc : Addr → Prop) (n : Nat) (ad : List Addr) (m : Mem) (H : Hp) (W : WX) (Ξ : XD → S → Prop) : Prop :=
  ∀ (x : XD) (σ' : L2.St) (ad' : List Addr) (H' : Hp) (s' : S) (cls : Value) (d : Option Addr), Ξ x s' → SR K Zc ad' H' σ' s' → Frm Zc n ad m H ad' s'.mem H' → XR K (FZ Zc ad' s'.mem H') x cls d → W cls d σ' H'
def EvX (K : PySem.W.Frag) (Zc : Addr → Prop) (t : WX → TE) (s : S) (Φ : SV → S → Prop) (Ξ : XD → S → Prop) : Prop :=
  ∀ W ad H σ Q, SR K Zc ad H σ s → Post K Zc ad H σ s Φ Q → XW K Zc s.mem.length ad s.mem H W Ξ → t W σ H Q
def ExX (K : PySem.W.Frag) (Zc : Addr → Prop) (n : Nat) (t : WX → TS) (s : S) (De : DE) (Ξ : XD → S → Prop) : Prop :=
  ∀ W ad H σ (Dd : Ends), SR K Zc ad H σ s → n ≤ s.mem.length →
    (∀ σ' ad' H' s', De.nx s' → SR K Zc ad' H' σ' s' → Frm Zc n ad s.mem H ad' s'.mem H' → Dd.nx σ' H') →
    (∀ v ad' H' rv m', De.rt rv m' → MR K Zc ad' H' m' → Frm Zc n ad s.mem H ad' m' H' → VR K Zc ad' m' H' v rv → Dd.rt v H') →
    (∀ σ' ad' H' s', De.bk s' → SR K Zc ad' H' σ' s' → Frm Zc n ad s.mem H ad' s'.mem H' → Dd.bk σ' H') →
    (∀ σ' ad' H' s', De.ct s' → SR K Zc ad' H' σ' s' → Frm Zc n ad s.mem H ad' s'.mem H' → Dd.ct σ' H') → XW K Zc n ad s.mem H W Ξ → t W Dd σ H

section
variable {K : PySem.W.Frag} {Zc : Addr → Prop} {ad ad' ad2 : List Addr} {H H' H2 : Hp} {m m' m2 : Mem} {σ σ' : L2.St} {s s' s1 : S} {n : Nat} {Q : VK} {Φ : SV → S → Prop} {De : DE} {Ξ : XD → S → Prop} {W : WX}
theorem XW.step {k : Nat} (w : XW K Zc n ad m H W Ξ) (F : Frm Zc k ad m H ad' m' H') (h : n ≤ k) (hk : k ≤ m'.length) : XW K Zc m'.length ad' m' H' W Ξ := fun x σ2 ad2 H2 s2 cls d h1 I2 F2 r => w x σ2 ad2 H2 s2 cls d h1 I2 ((F.less h).trans F2 (Nat.le_trans h hk)) r
theorem XW.up (w : XW K Zc n ad m H W Ξ) (h : n ≤ m.length) : XW K Zc m.length ad m H W Ξ := fun x σ2 ad2 H2 s2 cls d h1 I2 F2 r => w x σ2 ad2 H2 s2 cls d h1 I2 (F2.less h) r
/-! ### what raises nothing -/
/-! ### rules -/
theorem EvX.imp {t : WX → TE} {Ψ : SV → S → Prop} {Ω : XD → S → Prop} (h : EvX K Zc t s Ψ Ω) (k : ∀ sv s', Ψ sv s' → Φ sv s') (k2 : ∀ x s', Ω x s' → Ξ x s') : EvX K Zc t s Φ Ξ :=
  fun W ad H σ Q I p w => h W ad H σ Q I (fun v ad' H' sv s' a b c d => p v ad' H' sv s' (k _ _ a) b c d) fun x σ' ad' H' s' cls d h1 I1 F1 r => w x σ' ad' H' s' cls d (k2 _ _ h1) I1 F1 r
theorem ExX.imp {t : WX → TS} {De' : DE} {Ω : XD → S → Prop} (h : ExX K Zc n t s De' Ω) (a : ∀ s', De'.nx s' → De.nx s') (b : ∀ v m', De'.rt v m' → De.rt v m') (c : ∀ s', De'.bk s' → De.bk s') (d : ∀ s', De'.ct s' → De.ct s') (k2 : ∀ x s', Ω x s' → Ξ x s') : ExX K Zc n t s De Ξ :=
  fun W ad H σ Dd I hn k1 k2' k3 k4 w => h W ad H σ Dd I hn (fun σ' ad' H' s' h1 => k1 σ' ad' H' s' (a _ h1)) (fun v ad' H' rv m' h1 => k2' v ad' H' rv m' (b _ _ h1)) (fun σ' ad' H' s' h1 => k3 σ' ad' H' s' (c _ h1)) (fun σ' ad' H' s' h1 => k4 σ' ad' H' s' (d _ h1))
    fun x σ' ad' H' s' cls d h1 I1 F1 r => w x σ' ad' H' s' cls d (k2 _ _ h1) I1 F1 r
end

/-! ### a def that may raise -/
abbrev CtX := List SV → Mem → (SV → Mem → Prop) → (XD → Mem → Prop) → Prop
section
variable {P : Program} {w : World} {K : PySem.W.Frag} {mg : Str → Option Value} {base : Heap} {f : Addr} {fd : FuncData}
end
section
variable {X : Cx} {k : Nat} {x : Str} {ps : List Str} {C : CtX} {p pos : Pos} {e : Expr} {es : List Expr} {t : TA} {W : WX}
end
section
variable {K : PySem.W.Frag} {Zc : Addr → Prop} {s : S} {Φ : SV → S → Prop} {Ξ : XD → S → Prop} {C : CtX}
end
end SH

/-! own errors with fields of data: their making, raise, try .. except .. as .. -/
namespace SH
open PySem PySem.Spec PyProof.Rows L2
variable [WW]

/-! ### __init__ that stores its parameters -/
def spI (C : Addr) (fs : List Str) : Sp := fun vs H Q _ => ∃ a ys, vs = .ref a :: ys ∧ ys.length = fs.length ∧ H a = some (exo a C none) ∧
  ∀ dx H', H dx = none → dx ≠ a → H' a = some (exo a C (some dx)) → H' dx = some (exd dx (fs.zip ys).reverse) → (∀ b, b ≠ a → b ≠ dx → H' b = H b) → Q .non H'
/-! ### the class, by its name -/
structure CalE (P : Program) (w : World) (K : PySem.W.Frag) (mg : Str → Option Value) (base : Heap) (x : Str) (fs : List Str) : Prop where
  gC : mg x = some (.ref (clsA K x))
  oc : OexC K (clsA K x)
  xf : XfC K (clsA K x)
  no : ∀ f ∈ fs, PySem.W.findIn K (.ref (clsA K x)) f = some none
  me : PySem.W.exmOne K (.ref (clsA K x)) (.ref (clsA K x)) = some true
  ini : ∃ (fI : Addr) (fd : FuncData), PySem.W.findIn K (.ref (clsA K x)) "__init__" = some (some (.ref fI)) ∧ PySem.W.typeIn K (.ref fI) = some (.type "function") ∧
    FnOk P w K mg base CX0 1 fI fd ("self" :: fs) (spI (clsA K x) fs) ∧ Binds K fd ("self" :: fs) []
section
variable {X : Cx} {x : Str} {fs : List Str} {p pos pos' : Pos} {e : Expr} {es : List Expr} {ta : TA} {W : WX}
end
section
variable {K : PySem.W.Frag} {Zc : Addr → Prop} {ad ad' ad2 : List Addr} {H H' H2 : Hp} {m m' m2 : Mem} {σ σ' : L2.St} {s s' s1 : S} {n : Nat} {Q : VK} {Φ : SV → S → Prop} {De : DE} {Ξ : XD → S → Prop} {W : WX}
end
section
variable {X : Cx} {x nm : Str} {i : Nat} {fs : List Str} {body suite : List Stmt} {b₀ : Stmt} {np pos pos' : Pos} {tb : WX → TS} {ts : Addr → Value → Option Addr → TS}
end
section
variable {K : PySem.W.Frag} {Zc : Addr → Prop} {s : S} {n : Nat} {De : DE}
end
end SH
namespace SH
open PySem PySem.Spec PyProof.Rows L2
end SH

namespace SH
open PySem PySem.Spec PyProof.Rows L2
variable [WW]
theorem wipeS_len (sl : List SV) (vs : List Nat) : (wipeS sl vs).length = sl.length := by
  induction vs with
  | nil => rfl
  | cons v vs ih => simp [wipeS, ih]
theorem wipeS_get (sl : List SV) (vs : List Nat) (i : Nat) : (wipeS sl vs)[i]? = if i ∈ vs then (if i < sl.length then some .un else none) else sl[i]? := by
  refine NoI.keep (fun _ wNoI => ?_) ?_
  simp only [↓ NoI.wrOf wNoI (by
  clear wNoI
  induction vs with
  | nil => simp [wipeS]
  | cons v vs ih =>
    show ((wipeS sl vs).set v .un)[i]? = _
    rw [List.getElem?_set, wipeS_len]
    by_cases h : v = i
    · subst h; simp
    · rw [if_neg h, ih]
      have : (i ∈ v :: vs) ↔ i ∈ vs := by simp [Ne.symm h]
      simp only [this]
  )]
  intro _ hNoI
  simpa using (fun (_ : NoI.Sg) => hNoI) [5]
theorem wipeS_twice {vs : List Nat} (sl : List SV) : wipeS (wipeS sl vs) vs = wipeS sl vs := by
  apply List.ext_getElem?
  intro i
  rw [wipeS_get, wipeS_get, wipeS_len]
  split <;> rfl
section
variable {K : PySem.W.Frag} {Zc : Addr → Prop} {s : S} {Φ : SV → S → Prop}
/-- a op b op' c -/
theorem ev_chain {r r' : R2} {ta tb tc : TE} (h : EvS K Zc ta s fun x s1 => EvS K Zc tb s1 fun y s2 => OpS K Zc r x y s2 fun z s3 => ∃ k, z = .dat (.bool k) ∧
    (k = true → s3 = s2 ∧ EvS K Zc tc s3 fun w s4 => OpS K Zc r' y w s4 Φ) ∧ (k = false → Φ (.dat (.bool false)) s3)) : EvS K Zc (tChain r r' ta tb tc) s Φ := by
  refine NoI.keep (fun _ wNoI => ?_) ?_
  simp only [↓ NoI.wrOf wNoI (by
  clear wNoI
  intro ad H σ Q I p
  refine h ad H σ _ I fun x ad1 H1 sx s1 h1 I1 F1 r1 => h1 ad1 H1 σ _ I1 fun y ad2 H2 sy s2 h2 I2 F2 r2 => ?_
  refine h2 ad2 H2 σ x y _ I2 (r1.frm F2) r2 fun z ad3 H3 sz s3 h3 I3 F3 r3 => ?_
  obtain ⟨k, rfl, ht, hf⟩ := h3
  cases r3
  refine ⟨k, rfl, ?_⟩
  cases k with
  | true =>
    rw [if_pos rfl]
    obtain ⟨e3, ht2⟩ := ht rfl
    subst e3
    refine ht2 ad3 H3 σ _ I3 fun w ad4 H4 sw s4 h4 I4 F4 r4 => ?_
    exact h4 ad4 H4 σ y w Q I4 ((r2.frm F3).frm F4) r4 ((((p.step F1).step F2).step F3).step F4)
  | false =>
    rw [if_neg (by decide)]
    exact (((p.step F1).step F2).step F3).val I3 (hf rfl) (.bl false)
  )]
  intro _ hNoI
  simpa using (fun (_ : NoI.Sg) => hNoI) [5]
theorem ev_orV {ta tb : TE} (h : EvS K Zc ta s fun x s1 => ∃ b, x = .dat (.bool b) ∧ (b = true → Φ (.dat (.bool true)) s1) ∧ (b = false → EvS K Zc tb s1 Φ)) : EvS K Zc (tOrV ta tb) s Φ := by
  refine NoI.keep (fun _ wNoI => ?_) ?_
  simp only [↓ NoI.wrOf wNoI (by
  clear wNoI
  intro ad H σ Q I p
  refine h ad H σ _ I fun v ad1 H1 x s1 h1 I1 F1 r1 => ?_
  obtain ⟨b, rfl, h1, h2⟩ := h1
  cases r1
  refine ⟨b, rfl, ?_⟩
  cases b with
  | true => exact (p.step F1).val I1 (h1 rfl) (.bl true)
  | false => exact h2 rfl ad1 H1 σ Q I1 (p.step F1)
  )]
  intro _ hNoI
  simpa using (fun (_ : NoI.Sg) => hNoI) [5]
theorem ev_notV {ta : TE} (h : EvS K Zc ta s fun x s1 => ∃ b, x = .dat (.bool b) ∧ Φ (.dat (.bool (!b))) s1) : EvS K Zc (tNotV ta) s Φ := by
  refine NoI.keep (fun _ wNoI => ?_) ?_
  simp only [↓ NoI.wrOf wNoI (by
  clear wNoI
  intro ad H σ Q I p
  refine h ad H σ _ I fun v ad1 H1 sv s1 h1 I1 F1 r1 => ?_
  obtain ⟨b, rfl, h1⟩ := h1
  cases r1
  exact ⟨b, rfl, (p.step F1).val I1 h1 (.bl _)⟩
  )]
  intro _ hNoI
  simpa using (fun (_ : NoI.Sg) => hNoI) [5]
/-- a comprehension whose element changes nothing, whatever it binds -/
theorem ev_lcT {wi : TI} {g : TG} {te : TE} {vs : List Nat} (hw : GW g vs) (hi : IterS K Zc wi s fun items s1 => ∃ out : List D, out.length = items.length ∧ out.length ≤ 1000000 ∧
      (∀ (k : Nat) (d e : D) (m' : Mem), items[k]? = some d → out[k]? = some e → m' = s1.mem ++ [some (.list (out.take k))] →
        GS K Zc g (.dat d) ⟨wipeS s1.sl vs, m'⟩ fun s2 => EvS K Zc te s2 (asD fun y s4 => y = e ∧ Wk ⟨wipeS s4.sl vs, s4.mem⟩ ⟨wipeS s1.sl vs, m'⟩)) ∧ Φ (.own s1.mem.length) ⟨wipeS s1.sl vs, s1.mem ++ [some (.list out)]⟩) :
    EvS K Zc (tLc wi g tYes te vs) s Φ := by
  refine NoI.keep (fun _ wNoI => ?_) ?_
  simp only [↓ NoI.wrOf wNoI (by
  clear wNoI
  refine ev_lc hw fun ad H σ R I p => hi ad H σ R I fun J ad' H' items s1 h I' F jok => p J ad' H' items s1 ?_ I' F jok
  obtain ⟨out, hl, hz, hs, hd⟩ := h
  have ww : ∀ sl : List SV, wipeS (wipeS sl vs) vs = wipeS sl vs := wipeS_twice
  refine ⟨fun k s => s = ⟨wipeS s1.sl vs, s1.mem ++ [some (.list (out.take k))]⟩, by simp, ?_, ?_⟩
  · rintro k d _ hk rfl hn
    have hk' : k < items.length := (List.getElem?_eq_some_iff.mp hk).1
    have he : out[k]? = some (out[k]'(by omega)) := List.getElem?_eq_getElem _
    intro ad2 H2 σ2 v2 Q2 I2 r2 k2
    refine hs k d _ _ hk he rfl ad2 H2 σ2 v2 Q2 I2 r2 fun σ' sl' h1 h2 => k2 σ' sl' (tt_yes ⟨fun _ => h1.imp ?_, fun h => by cases h⟩) h2
    rintro sv s4 q
    have fin : ∀ (y : D) (s4 : S), (y = out[k]'(by omega) ∧ Wk ⟨wipeS s4.sl vs, s4.mem⟩ ⟨wipeS s1.sl vs, s1.mem ++ [some (.list (out.take k))]⟩) →
        ∃ acc, s4.mem[s1.mem.length]? = some (some (.list acc)) ∧ acc.length < sizeLine ∧ To (s1.mem.length + 1) (fun s => s = ⟨wipeS s1.sl vs, s1.mem ++ [some (.list (out.take (k + 1)))]⟩) ⟨wipeS s4.sl vs, s4.mem.set s1.mem.length (some (.list (acc ++ [y])))⟩ := by
      rintro y s4 ⟨rfl, w⟩
      have hm : s4.mem[s1.mem.length]? = some (some (.list (out.take k))) := w.mem _ _ (by simp)
      refine ⟨_, hm, ?_, _, ?_, ?_, rfl⟩
      · rw [List.length_take, sizeLine_eq]
        omega
      · refine ⟨w.len, fun j sv e => ?_, ?_, fun j ds e => ?_⟩
        · rcases w.sl j sv e with z | ⟨z1, z2⟩
          · exact .inl z
          · refine .inr ⟨z1, ?_⟩
            intro j2 e2
            have := z2 j2 e2
            simpa using this
        · have := w.le
          simpa using this
        · have e : (s1.mem ++ [some (.list (out.take (k + 1)))])[j]? = some (some ds) := e
          show (s4.mem.set s1.mem.length _)[j]? = _
          by_cases hj : j = s1.mem.length
          · subst hj
            simp at e
            subst e
            rw [List.getElem?_set_self (List.getElem?_eq_some_iff.mp hm).1, List.take_add_one, he]
            rfl
          · rw [List.getElem?_set_ne fun z => hj z.symm]
            refine w.mem j ds ?_
            show (s1.mem ++ [some (.list (out.take k))])[j]? = some (some ds)
            by_cases h2 : j < s1.mem.length
            · rw [List.getElem?_append_left h2] at e ⊢; exact e
            · have := (List.getElem?_eq_some_iff.mp e).1
              simp at this
              omega
      · simp
    cases sv with
    | dat d => exact fin d s4 q
    | own j =>
      simp only [asD] at q ⊢
      split
      · rename_i ds e
        rw [e] at q
        exact fin _ _ q
      · rename_i h
        split at q
        · rename_i ds e
          exact absurd e (h ds)
        · exact q
    | ro _ => exact q.elim
    | rng _ _ => exact q.elim
    | exn _ _ _ => exact q.elim
    | un => exact q.elim
  · rintro _ rfl
    rw [show out.take items.length = out by rw [← hl, List.take_length]]
    rw [ww]
    exact hd
  )]
  intro _ hNoI
  simpa using (fun (_ : NoI.Sg) => hNoI) [5]
end
end SH

/-! dicts whose keys are tuples, over data -/
namespace SH
open PySem PySem.Spec PyProof.Rows L2
section
variable [WW] {K : PySem.W.Frag} {Zc : Addr → Prop} {s : S} {x y : SV} {Φ : SV → S → Prop} {n : Nat}
theorem rd_key2 {ad : List Addr} {H : Hp} {m : Mem} {v : V} {sv : SV} {k : TK} (h : MR K Zc ad H m) (r : VR K Zc ad m H v sv) (e : rd m sv = some (kx k)) (hz : (NestedKey.tup k).depth ≤ 8) : ∃ b, v = .ref b ∧ KeyX K H b k := by
  have dv := rd_D h r e
  obtain ⟨b, rfl⟩ : ∃ b, v = .ref b := by
    cases dv
    exact ⟨_, rfl⟩
  exact ⟨b, rfl, dv, hz⟩
end
end SH

/-! comprehensions with any target and a test; l.extend(..), max and min with default=, tuple(range(..)), dict(pairs) of all keys -/
namespace SH
open PySem PySem.Spec PyProof.Rows L2
section
variable [WW] {K : PySem.W.Frag} {Zc : Addr → Prop} {s : S} {x y : SV} {Φ : SV → S → Prop} {n : Nat}
theorem mt_extendS {i : Nat} {ds es : List D} (e : s.mem[i]? = some (some (.list ds))) (h2 : rd s.mem y = some (.list es)) (hz : ds.length + es.length ≤ sizeLine) (k : Φ (.dat .none) ⟨s.sl, s.mem.set i (some (.list (ds ++ es)))⟩) : MtS K Zc rExtend (.own i) [y] s Φ := by
  refine NoI.keep (fun _ wNoI => ?_) ?_
  simp only [↓ NoI.wrOf wNoI (by
  clear wNoI
  intro ad H σ v vs Q I r1 r2 p
  obtain ⟨z, rfl, rz⟩ := vrs1 r2
  obtain ⟨a, us, rfl, ha, hH, hd⟩ := own_at I.mr r1 e
  obtain ⟨b, ws, rfl, hB, hb⟩ := rd_lst I.mr rz h2
  exact ⟨a, b, us, ws, rfl, rfl, hH, hB, by rw [dpAll_len hd, dpAll_len hb]; exact hz, p.put I e ha (dpAll_append hd hb) (sv := .dat .none) .non k⟩
  )]
  intro _ hNoI
  simpa using (fun (_ : NoI.Sg) => hNoI) [5]
end
/-! max, min with default= -/
section
variable {X : Cx}
/-- tuple(range) -/
def rTupR : List V → Hp → VK → Prop := fun xs H Q => ∃ (a : Addr) (lo hi : Int), xs = [.ref a] ∧ H a = some (.rng lo hi) ∧ (-(2 ^ 62) ≤ lo ∧ lo < 2 ^ 62 ∧ -(2 ^ 62) ≤ hi ∧ hi < 2 ^ 62) ∧ hi - lo ≤ 2 ^ 24 ∧ mkT H ((upTo lo hi).map V.int) Q
end
section
variable [WW] {K : PySem.W.Frag} {Zc : Addr → Prop} {s : S} {x y : SV} {Φ : SV → S → Prop} {n : Nat}
def CkS (K : PySem.W.Frag) (Zc : Addr → Prop) (r : List V → List V → Hp → VK → Prop) (xs zs : List SV) (s : S) (Φ : SV → S → Prop) : Prop :=
  ∀ ad H σ vs ws Q, SR K Zc ad H σ s → VRs K Zc ad s.mem H vs xs → VRs K Zc ad s.mem H ws zs → Post K Zc ad H σ s Φ Q → r vs ws H Q
theorem ev_ckw {r : List V → List V → Hp → VK → Prop} {t tk : TA} (h : ArS K Zc t s fun xs s1 => ArS K Zc tk s1 fun zs s2 => CkS K Zc r xs zs s2 Φ) : EvS K Zc (tCKw r t tk) s Φ := by
  refine NoI.keep (fun _ wNoI => ?_) ?_
  simp only [↓ NoI.wrOf wNoI (by
  clear wNoI
  intro ad H σ Q I p
  exact h ad H σ _ I fun vs ad1 H1 svs s1 h1 I1 F1 r1 => h1 ad1 H1 σ _ I1 fun ws ad2 H2 zvs s2 h2 I2 F2 r2 => h2 ad2 H2 σ vs ws Q I2 (r1.frm F2) r2 ((p.step F1).step F2)
  )]
  intro _ hNoI
  simpa using (fun (_ : NoI.Sg) => hNoI) [5]
theorem cb_tupR {lo hi : Int} (h1 : x = .rng lo hi) (hb : -(2 ^ 62) ≤ lo ∧ lo < 2 ^ 62 ∧ -(2 ^ 62) ≤ hi ∧ hi < 2 ^ 62) (hz : hi - lo ≤ 2 ^ 24) (k : Φ (.dat (.tuple ((upTo lo hi).map PyData.int))) s) : CbS K Zc rTupR [x] s Φ := by
  refine NoI.keep (fun _ wNoI => ?_) ?_
  simp only [↓ NoI.wrOf wNoI (by
  clear wNoI
  intro ad H σ vs Q I r p
  obtain ⟨v, rfl, r1⟩ := vrs1 r
  subst h1
  obtain ⟨a, rfl, e1⟩ := r1
  exact ⟨a, lo, hi, rfl, (Fz_inv e1).2, hb, hz, p.tup I k (dvs_ints _)⟩
  )]
  intro _ hNoI
  simpa using (fun (_ : NoI.Sg) => hNoI) [5]
end
end SH

/-! a list times an int -/
namespace SH
open PySem PySem.Spec PyProof.Rows L2
section
variable [WW] {K : PySem.W.Frag} {Zc : Addr → Prop} {s : S} {x y : SV} {Φ : SV → S → Prop}
theorem os_mxL {ds : List D} {n : Int} (h1 : rd s.mem x = some (.list ds)) (h2 : rd s.mem y = some (.int n)) (b1 : 0 ≤ n) (b2 : n ≤ 1000) (b3 : ds.length ≤ 1000) (k : Φ (.own s.mem.length) ⟨s.sl, s.mem ++ [some (.list (List.replicate n.toNat ds).flatten)]⟩) : OpS K Zc (rMulX K) x y s Φ := by
  refine NoI.keep (fun _ wNoI => ?_) ?_
  simp only [↓ NoI.wrOf wNoI (by
  clear wNoI
  intro ad H σ v u Q I r1 r2 p
  obtain ⟨a, vs, rfl, e1, d1⟩ := rd_lst I.mr r1 h1
  have hl := dpAll_len d1
  refine .inl (.inr ⟨a, n, vs, rfl, rd_int I.mr r2 h2, e1, by omega, by omega, ?_, fun q hq => p.lst I k hq (dvs_flat d1 _)⟩)
  have : vs.length * n.toNat ≤ 1000 * 1000 := Nat.mul_le_mul (by omega) (by omega)
  rw [sizeLine_eq]
  omega
  )]
  intro _ hNoI
  simpa using (fun (_ : NoI.Sg) => hNoI) [5]
end
end SH

/-! a walk in which is raised; except x: without a name; longer tuples -/
namespace SH
open PySem PySem.Spec PyProof.Rows L2
variable [WW]
section
variable {K : PySem.W.Frag} {Zc : Addr → Prop} {s : S} {n : Nat} {De : DE} {Ξ : XD → S → Prop}
end
section
variable {X : Cx} {x : Str} {fs : List Str} {body suite : List Stmt} {b₀ : Stmt} {np pos pos' : Pos} {tb : WX → TS} {ts : Addr → Value → Option Addr → TS}
end
section
variable {K : PySem.W.Frag} {Zc : Addr → Prop} {s : S} {n : Nat} {De : DE}
end
/-! ### a tuple times an int up to 2000 -/
section
variable {K : PySem.W.Frag} {Zc : Addr → Prop} {s : S} {x y : SV} {Φ : SV → S → Prop}
end
end SH

/-! further rules -/
namespace SH
open PySem PySem.Spec PyProof.Rows L2
variable [WW]
section
variable {K : PySem.W.Frag} {Zc : Addr → Prop} {s : S} {n : Nat}
end
end SH

/-! x.count(y), range with a step of -1, reversed(range(..)), (*x, y) -/
namespace SH
open PySem PySem.Spec PyProof.Rows L2
variable [WW]
/-! ### x.count(z), x a tuple of texts or a list of such -/
theorem flat_strs2 : ∀ ys : List Str, (ys.map V.str).all flatV = true
  | [] => rfl
  | _ :: ys => flat_strs2 ys
theorem countP_eqU {z : Str} : ∀ {ys : List Str} {us : List Value}, Vals (ys.map V.str) us → us.countP (eqU (.str z)) = ys.count z
  | [], _, .nil => rfl
  | y :: ys, _, .cons r t => by
    obtain ⟨k, rfl⟩ := r
    rw [List.countP_cons, List.count_cons, countP_eqU t]
    rfl
def rCntT (K : PySem.W.Frag) : V → List V → Hp → VK → Prop := fun x xs H Q => ∃ p, ∃ ys : List Str, ∃ z, x = .ref p ∧ xs = [.str z] ∧ SqT K H p (ys.map V.str) ∧ Q (.int ((ys.count z : Nat) : Int)) H
def rCntL (K : PySem.W.Frag) : V → List V → Hp → VK → Prop := fun x xs H Q => ∃ p, ∃ ys : List Str, ∃ z, x = .ref p ∧ xs = [.str z] ∧ SqL K H p (ys.map V.str) ∧ Q (.int ((ys.count z : Nat) : Int)) H
section
variable {X : Cx}
theorem mt_tup_count : MtR X "tuple.count" (rCntT X.K) := by
  refine NoI.keep (fun _ wNoI => ?_) ?_
  simp only [↓ NoI.wrOf wNoI (by
  clear wNoI
  intro pins s σ H x xs v us Q I rx rs h
  obtain ⟨p, ys, z, rfl, rfl, hq, q⟩ := h
  cases rx
  obtain ⟨u, rfl, t, rfl⟩ := vals1 rs
  obtain ⟨its, r, pl, hz⟩ := I.tuple hq
  obtain ⟨⟨cls, dd, dt, sl⟩, ho, hc, n, hd⟩ := pl
  simp only at hc hd
  subst hc
  subst hd
  refine call_meets PySem.F.slot_tuple_count ⟨_, ho, rfl⟩ PySem.F.entry_tuple_count (PySem.F.args_tuple_count_2 _ _) (SeqAt.tuple_countAt p its.toArray n dd sl (.str z t) (eqU (.str z)))
    ⟨ho, fun w hw => mem_eqAt (x := .str z) ⟨t, rfl⟩ rfl r (flat_strs2 ys) w (by simpa using hw), ?_⟩
  have e : its.toArray.toList.countP (eqU (.str z)) = ys.count z := countP_eqU r
  rw [e]
  exact ⟨.int ((ys.count z : Nat) : Int), H, I.tok _, ⟨_, rfl⟩, q⟩
  )]
  intro _ hNoI
  simpa using (fun (_ : NoI.Sg) => hNoI) [5]
theorem mt_lst_count : MtR X "list.count" (rCntL X.K) := by
  refine NoI.keep (fun _ wNoI => ?_) ?_
  simp only [↓ NoI.wrOf wNoI (by
  clear wNoI
  intro pins s σ H x xs v us Q I rx rs h
  obtain ⟨p, ys, z, rfl, rfl, hq, q⟩ := h
  cases rx
  obtain ⟨u, rfl, t, rfl⟩ := vals1 rs
  obtain ⟨its, r, pl, hz⟩ := I.list hq
  obtain ⟨⟨cls, dd, dt, sl⟩, ho, hc, n, hd⟩ := pl.isList
  simp only at hc hd
  subst hc
  subst hd
  refine call_meets PySem.F.slot_list_count ⟨_, ho, rfl⟩ PySem.F.entry_list_count (PySem.F.args_list_count_2 _ _) (SeqAt.list_countAt p its.toArray n dd sl (.str z t) (eqU (.str z)))
    ⟨ho, fun w hw => mem_eqAt (x := .str z) ⟨t, rfl⟩ rfl r (flat_strs2 ys) w (by simpa using hw), ?_⟩
  have e : its.toArray.toList.countP (eqU (.str z)) = ys.count z := countP_eqU r
  rw [e]
  exact ⟨.int ((ys.count z : Nat) : Int), H, I.tok _, ⟨_, rfl⟩, q⟩
  )]
  intro _ hNoI
  simpa using (fun (_ : NoI.Sg) => hNoI) [5]
end
def tCnt (K : PySem.W.Frag) (to te : TE) : TE := fun σ H Q => to σ H fun x H1 => ∃ p, ∃ ys : List Str, x = .ref p ∧
  ((TupH H1 p (ys.map V.str) ∧ te σ H1 fun y H2 => ∃ z, y = .str z ∧ SqT K H2 p (ys.map V.str) ∧ Q (.int ((ys.count z : Nat) : Int)) H2) ∨
   (H1 p = some (.lst (ys.map V.str)) ∧ te σ H1 fun y H2 => ∃ z, y = .str z ∧ H2 p = some (.lst (ys.map V.str)) ∧ Q (.int ((ys.count z : Nat) : Int)) H2))
theorem pe_cnt {X : Cx} {o e : Expr} {to te : TE} {apos cpos : Pos} (ho : PE X o to) (he : PE X e te)
    (hbase : attributeBase o "count" X.env (eval o X.env) = eval o X.env := by rfl)
    (hfew : ((backTo cpos (starEach [e] X.env)).all (fun x => !x.1) && (backToKw cpos (keywordEach [] X.env)).all (fun x => x.1.isSome)
      && decide ([e].length + ([] : List Keyword).length + (if ([] : List Keyword).isEmpty then 0 else 1) < 30)) = true := by rfl)
    (hline : (apos.endLine == cpos.line) = true := by rfl) (hs : starEach [e] X.env = [(false, eval e X.env)] := by rfl) :
    PE X (.Call (.Attribute o "count" apos) [e] [] cpos) (tCnt X.K to te) := by
  refine NoI.keep (fun _ wNoI => ?_) ?_
  simp only [↓ NoI.wrOf wNoI (by
  clear wNoI
  refine ⟨fun pins s σ H Q I h => ?_⟩
  refine wpAny_Call_method_late hbase hfew hline rfl (thn (ho.run pins s σ H _ I h) fun v s1 ⟨x, H1, I1, r1, p, ys, ex, q1⟩ => ?_)
  subst ex
  cases r1
  rcases q1 with ⟨⟨ob, hd, hT⟩, q1⟩ | ⟨hT, q1⟩
  · obtain ⟨e0, z0, its, rv, ho'⟩ := I1.hok p _ hT
    obtain ⟨o2, ho2, hc2, _⟩ := ho'
    have e1 : s1.heap.get? p = some ob := e0
    refine ⟨"tuple", "tuple.count", PySem.F.plainAttrs_tuple, PySem.F.slot_tuple_count, PySem.F.type_tuple_count, ⟨o2, ho2, hc2⟩, fun a ea => ?_, ?_⟩
    · cases ea
      exact ⟨ob, e1, hd⟩
    · rw [hs]
      refine Calls.callWith_builtin rfl (Calls.evalArgs_plain ?_)
      refine Calls.spliced_cons (thn (he.run pins s1 σ H1 _ I1 q1) fun u s2 ⟨y, H2, I2, r2, z, ey, h1, q2⟩ => Calls.spliced_nil ?_)
      subst ey
      exact mt_tup_count pins s2 σ H2 (.ref p) [.str z] _ [u] Q I2 rfl (.cons r2 .nil) ⟨p, ys, z, rfl, rfl, h1, q2⟩
  · obtain ⟨z0, its, n, rv, ho'⟩ := I1.hok p _ hT
    refine ⟨"list", "list.count", PySem.F.plainAttrs_list, PySem.F.slot_list_count, PySem.F.type_list_count, ⟨_, ho', rfl⟩, fun a ea => ?_, ?_⟩
    · cases ea
      exact ⟨_, ho', rfl⟩
    · rw [hs]
      refine Calls.callWith_builtin rfl (Calls.evalArgs_plain ?_)
      refine Calls.spliced_cons (thn (he.run pins s1 σ H1 _ I1 q1) fun u s2 ⟨y, H2, I2, r2, z, ey, h1, q2⟩ => Calls.spliced_nil ?_)
      subst ey
      exact mt_lst_count pins s2 σ H2 (.ref p) [.str z] _ [u] Q I2 rfl (.cons r2 .nil) ⟨p, ys, z, rfl, rfl, SqL.of h1, q2⟩
  )]
  intro _ hNoI
  simpa using (fun (_ : NoI.Sg) => hNoI) [5]
section
variable {K : PySem.W.Frag} {Zc : Addr → Prop} {s : S} {x y : SV} {Φ : SV → S → Prop} {n : Nat} {De : DE}
theorem strsD_all (ys : List Str) : strsD (ys.map PyData.str) = true := by
  unfold strsD
  simp
theorem ev_cntT {to te : TE} (h : EvS K Zc to s fun x s1 => ∃ ys : List Str, rd s1.mem x = some (.tuple (ys.map PyData.str)) ∧ EvS K Zc te s1 fun y s2 => ∃ z, rd s2.mem y = some (.str z) ∧ Φ (.dat (.int ((ys.count z : Nat) : Int))) s2) :
    EvS K Zc (tCnt K to te) s Φ := by
  refine NoI.keep (fun _ wNoI => ?_) ?_
  simp only [↓ NoI.wrOf wNoI (by
  clear wNoI
  intro ad H σ Q I p
  refine h ad H σ _ I fun v ad1 H1 x s1 h1 I1 F1 r1 => ?_
  obtain ⟨ys, e, h1⟩ := h1
  have hx := rd_tupD I1.mr r1 e
  subst hx
  obtain ⟨a, vs, rfl, t1, d1⟩ := rd_tupH I1.mr r1 e
  have ev := dpAll_strs d1
  subst ev
  have hT := (t1.resolve_right fun z => by rw [strsD_all] at z; exact absurd z.1 (by decide)).2
  refine ⟨a, ys, rfl, .inl ⟨hT, h1 ad1 H1 σ _ I1 fun u ad2 H2 y s2 h2 I2 F2 r2 => ?_⟩⟩
  obtain ⟨z, e2, k⟩ := h2
  refine ⟨z, rd_str I2.mr r2 e2, ?_, ((p.step F1).step F2).val I2 k (.int _)⟩
  have r1' := r1.frm F2
  obtain ⟨a', vs', e', t2, d2⟩ := rd_tup I2.mr r1' rfl
  cases e'
  rw [dpAll_strs d2] at t2
  exact t2
  )]
  intro _ hNoI
  simpa using (fun (_ : NoI.Sg) => hNoI) [5]
/-! ### ranges that go down -/
def rangeC (lo c : Int) (n : Nat) : List D := (List.range n).map fun (i : Nat) => .int (lo + (i : Int) * c)
theorem jok_rangeC {lo c : Int} {n : Nat} {F : Hp} : JOk K Zc (Itc lo c n) (rangeC lo c n) F := by
  refine NoI.keep (fun _ wNoI => ?_) ?_
  simp only [↓ NoI.wrOf wNoI (by
  clear wNoI
  intro i ad H m e M
  refine ⟨fun hi => ⟨show i < n by simpa [rangeC] using hi, fun x H' y => ?_⟩, fun hi => show n ≤ i by simpa [rangeC] using hi⟩
  obtain ⟨rfl, rfl⟩ := y
  have hi : i < n := by simpa [rangeC] using hi
  exact ⟨.inl rfl, _, by simp [rangeC, hi], .int _⟩
  )]
  intro _ hNoI
  simpa using (fun (_ : NoI.Sg) => hNoI) [5]
theorem it_range3 {ta : TA} {Ψ : List D → S → Prop} (h : ArS K Zc ta s fun svs s' => ∃ i j : Int, svs = [.dat (.int i), .dat (.int j), .dat (.int (-1))] ∧ (-(2 ^ 62) ≤ i ∧ i < 2 ^ 62 ∧ -(2 ^ 62) ≤ j ∧ j < 2 ^ 62) ∧ Ψ (rangeC i (-1) (i - j).toNat) s') : IterS K Zc (iRng3 ta) s Ψ := by
  refine NoI.keep (fun _ wNoI => ?_) ?_
  simp only [↓ NoI.wrOf wNoI (by
  clear wNoI
  intro ad H σ R I p
  refine h ad H σ _ I fun vs ad1 H1 svs s1 h1 I1 F1 r1 => ?_
  obtain ⟨i, j, rfl, b, k⟩ := h1
  match vs, r1 with
  | [v, u, w], ⟨r, r', r'', _⟩ =>
    cases r
    cases r'
    cases r''
    exact ⟨i, j, -1, _, rfl, RgC.neg b.1 b.2.1 b.2.2.1 b.2.2.2, p _ ad1 H1 _ s1 k I1 F1 jok_rangeC⟩
  )]
  intro _ hNoI
  simpa using (fun (_ : NoI.Sg) => hNoI) [5]
theorem it_revR2 {ta tb : TE} {Ψ : List D → S → Prop} (h : EvS K Zc ta s fun x s1 => EvS K Zc tb s1 fun y s2 => ∃ i j : Int, x = .dat (.int i) ∧ y = .dat (.int j) ∧ (-(2 ^ 62) ≤ i ∧ i < 2 ^ 62 ∧ -(2 ^ 62) ≤ j ∧ j < 2 ^ 62) ∧ Ψ (rangeC (i + (((j - i).toNat : Nat) : Int) - 1) (-1) (j - i).toNat) s2) : IterS K Zc (iRevR (tRg2 ta tb)) s Ψ := by
  refine NoI.keep (fun _ wNoI => ?_) ?_
  simp only [↓ NoI.wrOf wNoI (by
  clear wNoI
  intro ad H σ R I p
  refine h ad H σ _ I fun v ad1 H1 x s1 h1 I1 F1 r1 => h1 ad1 H1 σ _ I1 fun u ad2 H2 y s2 h2 I2 F2 r2 => ?_
  obtain ⟨i, j, rfl, rfl, b, k⟩ := h2
  cases r1
  cases r2
  exact ⟨i, j, rfl, rfl, b.1, b.2.1, b.2.2.1, b.2.2.2, p _ ad2 H2 _ s2 k I2 (F1.trans F2 F1.le) jok_rangeC⟩
  )]
  intro _ hNoI
  simpa using (fun (_ : NoI.Sg) => hNoI) [5]
/-! ### (*x, ..) -/
theorem vrs_dats : ∀ {ad : List Addr} {m : Mem} {H : Hp} {vs : List V} {ds : List D}, DVs K (FZ Zc ad m H) vs ds → VRs K Zc ad m H vs (ds.map SV.dat)
  | _, _, _, _, _, .nil => trivial
  | _, _, _, _, _, .cons h t => ⟨h, vrs_dats t⟩
theorem VRs.app {ad : List Addr} {m : Mem} {H : Hp} : ∀ {vs us : List V} {svs tvs : List SV}, VRs K Zc ad m H vs svs → VRs K Zc ad m H us tvs → VRs K Zc ad m H (vs ++ us) (svs ++ tvs)
  | [], _, [], _, _, h => h
  | _ :: _, _, _ :: _, _, h, g => ⟨h.1, VRs.app h.2 g⟩
  | [], _, _ :: _, _, h, _ => h.elim
  | _ :: _, _, [], _, h, _ => h.elim
theorem ad_star {te : TE} {tr : TA} {Ψ : List D → S → Prop} (h : EvS K Zc te s (asD fun d s1 => ∃ ds, seqD d = some ds ∧ ArD K Zc tr s1 fun es s2 => Ψ (ds ++ es) s2)) : ArD K Zc (StX.tStar K te tr) s Ψ := by
  refine NoI.keep (fun _ wNoI => ?_) ?_
  simp only [↓ NoI.wrOf wNoI (by
  clear wNoI
  intro ad H σ Q I p
  refine ev_asD (Φ := fun sv s' => ∃ d ds, sv = .dat d ∧ seqD d = some ds ∧ ArD K Zc tr s' fun es s2 => Ψ (ds ++ es) s2) h (fun d s' ⟨ds, e, k⟩ => ⟨d, ds, rfl, e, k⟩) ad H σ _ I fun v ad1 H1 sv s1 h1 I1 F1 r1 => ?_
  obtain ⟨d, ds, rfl, e, k⟩ := h1
  obtain ⟨a, vs, rfl, q, dv⟩ := rd_seq I1.mr r1 rfl e
  refine ⟨a, vs, rfl, q.symm, k ad1 H1 σ _ I1 fun us ad2 H2 svs s2 h2 I2 F2 r2 => ?_⟩
  obtain ⟨es, rfl, hΨ⟩ := h2
  exact p (vs ++ us) ad2 H2 _ s2 ⟨ds ++ es, by rw [List.map_append], hΨ⟩ I2 (F1.trans F2 F1.le) (VRs.app (vrs_dats (dpAll_mono F2.same _ _ dv)) r2)
  )]
  intro _ hNoI
  simpa using (fun (_ : NoI.Sg) => hNoI) [5]
end
end SH

/-! {k: v for t in it if c}, the keys tuples -/
namespace SH
open PySem PySem.Spec PyProof.Rows L2
section
variable [WW] (K : PySem.W.Frag)
def tDcX (wi : TI) (g : TG) (tt : TT) (tk tv : TE) (vs : List Nat) : TE := fun σ H Q => wi σ H fun J H1 =>
  ∀ q, H1 q = none → ∃ W : Nat → Nat → Hp → Prop, (∃ m, W 0 m (upd H1 q (.dK []))) ∧ ∀ i m G, W i m G →
    (J.stop i G ∧ Q (.ref q) G) ∨
    (J.go i G ∧ ∃ Nx : Hp → Prop, (∀ G', Nx G' → ∃ m', m' < m ∧ W (i + 1) m' G') ∧
      ∀ x G', J.yld i G x G' → g x (wipe σ vs) G' fun σ2 H2 => wipe σ2 vs = wipe σ vs ∧
        tt σ2 H2 fun b H3 => (b = false → Nx H3) ∧ (b = true → tk σ2 H3 fun y H4 => tv σ2 H4 fun z H5 =>
          ∃ (a : Addr) (xs : List XE) (es : List (TK × D)) (k : TK), y = .ref a ∧ IsXw H5 q xs ∧ KX K H5 xs es ∧ KeyX K H5 a k ∧ xs.length < sizeLine ∧ Nx (upd H5 q (DXo q (putX xs k a z)))))
end
section
variable {X : Cx}
/-- the store of a turn -/
theorem dcx_store {pins : List (Addr × Obj)} {σ : L2.St} {H : Hp} {s : Shared} {E : Value → Shared → Prop} {q a : Addr} {xs : List XE} {es : List (TK × D)} {k : TK} {v : V} {r : Value} {Q : Unit → Shared → Prop} (hu : X.A.units + 64 < cLine) (I : L2.Inv X pins σ H s)
    (hX : @IsXw ⟨X.w⟩ H q xs) (hK : @KX ⟨X.w⟩ X.K H xs es) (hk : @KeyX ⟨X.w⟩ X.K H a k) (hz : xs.length < sizeLine) (rv : RelV v r)
    (h : ∀ s', L2.Inv X pins σ (upd H q (@DXo ⟨X.w⟩ q (putX xs k a v))) s' → Q () s') : wpAny (model X.prog X.w) X.A (dictSet q (.ref a) r) Q E s := by
  refine NoI.keep (fun _ wNoI => ?_) ?_
  simp only [↓ NoI.wrOf wNoI (by
  clear wNoI
  have hmu := @IsXw.mut ⟨X.w⟩ _ _ _ hX
  obtain ⟨ys, rr, dd, hd, hs⟩ := isx_of I (@IsXw.rd ⟨X.w⟩ _ _ _ hX) (@KX.dks ⟨X.w⟩ _ _ _ _ hK)
  have hl : ys.length = xs.length := by have := congrArg List.length (xes_key rr); simpa using this.symm
  refine wpAny_dictSet_heap (knd := nestedKind X.prog X.w) (by show X.A.units + 8 < cLine; omega) (key_is I hk) dd (fun h' d' hsb => h _ ?_) (by omega)
  obtain ⟨ob, x1, x2, g, x3⟩ := d'
  exact d_write I hmu hsb ⟨ob, g⟩ (dx_new (depth_put ⟨hz, hd.2⟩ hk.2) hs (xes_put rr rv) ⟨ob, x1, x2, g, x3⟩)
  )]
  intro _ hNoI
  simpa using (fun (_ : NoI.Sg) => hNoI) [5]
/-- the block of the comprehension -/
theorem dcx_block {pins : List (Addr × Obj)} {s : Shared} {σ : L2.St} {H : Hp} {Q : VK} {ke ve tg it : Expr} {ifs : List Expr} {sc : Scope} {own : List (Str × Nat)} {pos p2 : Pos} {wi : TI} {g : TG} {tt : TT} {tk tv : TE} {use : Option (Value → Sem Unit)} {Qf : Value → Shared → Prop}
    (hu : X.A.units + 64 < cLine) (hc : X.calm = true) (nd : X.N.Nodup) (I : L2.Inv X pins σ H s) (wi_ok : PI X tg it wi) (bl : BlkOk X.N X.env.scope sc own)
    (g_ok : ∀ (s : Shared) (H : Hp) (C : Addr) (cl : List (Str × Addr)) (fp : List Addr), PG (X.blk s H sc (compEnvC sc cl C X.env) fp) tg g)
    (t_ok : ∀ (s : Shared) (H : Hp) (C : Addr) (cl : List (Str × Addr)) (fp : List Addr), PTs (X.blk s H sc (compEnvC sc cl C X.env) fp) ifs tt)
    (k_ok : ∀ (s : Shared) (H : Hp) (C : Addr) (cl : List (Str × Addr)) (fp : List Addr), PE (X.blk s H sc (compEnvC sc cl C X.env) fp) ke tk)
    (v_ok : ∀ (s : Shared) (H : Hp) (C : Addr) (cl : List (Str × Addr)) (fp : List Addr), PE (X.blk s H sc (compEnvC sc cl C X.env) fp) ve tv)
    (fold : ∀ x, foldedSetIterable it X.env x = pure x)
    (h : @tDcX ⟨X.w⟩ X.K wi g tt tk tv (own.map (·.2)) σ H Q)
    (back : ∀ q C s' m G, L2.Inv X pins σ G s' → Q (.ref q) G → s'.heap.Ns C m → FpOk X pins G C → compPost (model X.prog X.w) X.A X.xe use Qf (.ref q) C (.ok .next) s') :
    wpAny (model X.prog X.w) X.A (comprehension (.DictComp ke ve [⟨tg, it, ifs, 0⟩] sc pos) sc X.env p2 newDict false (eval it X.env) use) Qf X.xe s := by
  refine NoI.keep (fun _ wNoI => ?_) ?_
  simp only [↓ NoI.wrOf wNoI (by
  clear wNoI
  letI : WW := ⟨X.w⟩
  have cells : ∀ y ∈ sc.names, y.2 = .free → ∃ c, X.env.cells.lookup y.1 = some c := by
    intro y hy e
    cases bl.free y hy e with
    | inl z => exact I.ok.has _ (.inl z)
    | inr z => exact I.ok.has _ (.inr z)
  refine wpAny_comprehension_free (use := use) rfl fold (closure_ok cells) bl.kind (fun y hy e => by rw [bl.uniq y hy, e]) ?_
  refine thn (wi_ok.run pins s σ H _ I h) fun xv s1 hx => thn hx fun itv s2 h2 => ?_
  obtain ⟨ia, fp, tn, J, H2, rfl, I2, T, st2, f2, hq⟩ := h2
  refine wpAny_newObj_type (newEnv_comp ?_)
  generalize eq : s2.heap.objs.size = q
  have qn : H2 q = none := I2.hok.fresh (Nat.le_of_eq eq)
  obtain ⟨W, ⟨m0, w0⟩, turns⟩ := hq q qn
  -- behind the empty dict
  obtain ⟨s3, es3⟩ : ∃ s3 : Shared, ({ s2 with heap := s2.heap.push { cls := .type "dict", data := .dict #[] } } : Shared) = s3 := ⟨_, rfl⟩
  have e3 : s3.heap = s2.heap.push { cls := .type "dict", data := .dict #[] } := by rw [← es3]
  have I3 : L2.Inv X pins σ (upd H2 q (.dK [])) s3 := by
    subst eq
    rw [← es3]
    exact I2.laid (t' := s2.toks) (fun b o e => Heap.get?_push_of_some _ e) (Nat.le_refl _) (dk_empty s2.heap I2.big)
  have low : ∀ b ∈ fp, b < s2.heap.objs.size := by
    intro b hb
    obtain ⟨o, e, _⟩ := T.obj _ _ st2 b hb
    exact Heap.lt_size e
  have f3 : ∀ b ∈ fp, FpOk X pins (upd H2 q (.dK [])) b ∧ b < s3.heap.objs.size := by
    intro b hb
    have hlt := low b hb
    have hne : b ≠ q := by rw [← eq]; exact Nat.ne_of_lt hlt
    exact ⟨⟨by rw [upd_ne hne]; exact (f2 b hb).1, (f2 b hb).2⟩, by rw [e3, Heap.size_push]; exact Nat.lt_succ_of_lt hlt⟩
  have st3 : tn 0 s3.heap := T.keep _ _ _ st2 fun b _ o e => by
    rw [e3]
    exact Heap.get?_push_of_some _ e
  have I4 := block_start I3 bl nd f3
  obtain ⟨ce, ece⟩ : ∃ ce, compEnvC sc (cellsFrom (s3.heap.objs.size + 1) sc.names (cloFrom X.env.cells sc.names [])) s3.heap.objs.size X.env = ce := ⟨_, rfl⟩
  obtain ⟨H3, eH3⟩ : ∃ H3, upd H2 q (.dK []) = H3 := ⟨_, rfl⟩
  have none3 : ∀ b ∈ fp, H3 b = none := fun b hb => by rw [← eH3]; exact (f3 b hb).1.1
  have pg := g_ok s3 H3 s3.heap.objs.size (cellsFrom (s3.heap.objs.size + 1) sc.names (cloFrom X.env.cells sc.names [])) fp
  have pt := t_ok s3 H3 s3.heap.objs.size (cellsFrom (s3.heap.objs.size + 1) sc.names (cloFrom X.env.cells sc.names [])) fp
  have pk := k_ok s3 H3 s3.heap.objs.size (cellsFrom (s3.heap.objs.size + 1) sc.names (cloFrom X.env.cells sc.names [])) fp
  have pv := v_ok s3 H3 s3.heap.objs.size (cellsFrom (s3.heap.objs.size + 1) sc.names (cloFrom X.env.cells sc.names [])) fp
  have lce : ce.locals = s3.heap.objs.size := by rw [← ece]; rfl
  rw [eH3] at I3 I4 w0 f3
  rw [ece] at I4 pg pt pk pv
  obtain ⟨s4, es4⟩ : ∃ s4 : Shared, ({ s3 with heap := pushCells (s3.heap.push { cls := .type "dict", data := .dict #[] }) sc.names } : Shared) = s4 := ⟨_, rfl⟩
  rw [es4] at I4
  have st4 : tn 0 s4.heap := T.keep _ _ _ st3 fun b _ o e => by
    rw [← es4]
    exact pushCells_keeps _ _ _ _ (Heap.get?_push_of_some _ e)
  have fps : ∀ {τ : L2.St} {G : Hp} {t : Shared}, L2.Inv (X.blk s3 H3 sc ce fp) [] τ G t → (∀ b ∈ fp, G b = none) → ∀ b ∈ fp, FpOk (X.blk s3 H3 sc ce fp) [] G b := by
    intro τ G t It hn b hb
    exact ⟨hn b hb, (It.ok.exf b hb).1, It.ok.exfs b hb, .inl hb, fun x c e => (It.ok.exf b hb).2 x c e, fun p hp => absurd (show p ∈ ([] : List (Addr × Obj)) ++ [] from hp) (by simp)⟩
  have run : codeAny (model X.prog X.w) X.A (.compLoop (.DictComp ke ve [⟨tg, it, ifs, 0⟩] sc pos) 0 (.ref ia) (.ref q) ce) (compPost (model X.prog X.w) X.A X.xe use Qf (.ref q) s3.heap.objs.size) s4 := by
    refine compLoop_anyD (fun n t => ∃ i G, L2.Inv (X.blk s3 H3 sc ce fp) [] (wipe σ (own.map (·.2))) G t ∧ tn i t.heap ∧ (∀ b ∈ fp, G b = none) ∧ W i n G) ?_ m0 ⟨0, H3, I4, st4, none3, w0⟩
    rintro n s5 ⟨i, H5, I5, st5, n5, w5⟩
    rcases turns i n H5 w5 with ⟨stop, fin⟩ | ⟨go, Nx, down, step⟩
    · refine thnF (T.done (X.blk s3 H3 sc ce fp) rfl rfl rfl hc i [] s5 _ H5 (fun _ _ => False) I5 (fps I5 n5) st5 stop) fun r s6 ⟨hr, I6⟩ => ?_
      subst hr
      have I7 : L2.Inv X pins σ H5 s6 := I3.call' (ch := fp) I6.os I6.base I6.hok I6.bare fun b hb => by
        obtain ⟨⟨_, y1, y2, y3, y4⟩, _⟩ := f3 b hb
        exact ⟨y3, y1, y4.1, y4.2⟩
      have free : H5 s3.heap.objs.size = none := by rw [← lce]; exact I6.free
      obtain ⟨m, hn, _⟩ := I6.loc
      have hn : s6.heap.Ns ce.locals m := hn
      rw [lce] at hn
      exact back q s3.heap.objs.size s6 m H5 I7 fin hn (I3.fpOk (Nat.le_refl _) free)
    · refine thnF (T.item (X.blk s3 H3 sc ce fp) rfl rfl rfl hc i [] s5 _ H5 (fun _ _ => False) I5 (fps I5 n5) st5 go) fun r s6 ⟨u, hr, h6⟩ => ?_
      subst hr
      refine thnF h6 fun _ s7 ⟨x, H7, I7, r7, y7, st7, n7⟩ => ?_
      have P7 := I7.pinned (fps I7 n7) (T.obj _ _ st7)
      refine thnF (pg.run _ s7 _ H7 x u _ P7 r7 (step x H7 y7)) fun _ s8 ⟨σ8, H8, I8, hw8, q8⟩ => ?_
      refine thnF (pt.run _ s8 σ8 H8 _ I8 q8) fun b s9 ⟨H9, I9, q9⟩ => ?_
      have stay : ∀ {t : Shared} {G : Hp}, L2.Inv (X.blk s3 H3 sc ce fp) ([] ++ pinsAt fp s7.heap) σ8 G t → Nx G →
          ∃ m, m < n ∧ ∃ i G, L2.Inv (X.blk s3 H3 sc ce fp) [] (wipe σ (own.map (·.2))) G t ∧ tn i t.heap ∧ (∀ b ∈ fp, G b = none) ∧ W i m G := by
        intro t G It nx
        obtain ⟨m', hm, w'⟩ := down G nx
        have pin : ∀ b ∈ fp, ∀ o, s7.heap.get? b = some o → t.heap.get? b = some o ∧ G b = none := by
          intro b hb o e
          have z := It.pin (b, o) (List.mem_append_right _ (List.mem_append_right _ (mem_pinsAt hb e)))
          exact ⟨z.1, z.2.1⟩
        have hl : (wipe σ (own.map (·.2))).length = σ8.length := by rw [← hw8, wipe_length]
        refine ⟨m', hm, i + 1, G, (It.unpinned (pins := [])).weak hl (fun j v e => ?_), T.keep _ _ _ st7 fun b hb o e => (pin b hb o e).1, fun b hb => ?_, w'⟩
        · rw [← hw8] at e
          exact (wipe_some e).1
        · obtain ⟨o, e, _⟩ := T.obj _ _ st7 b hb
          exact (pin b hb o e).2
      cases b with
      | false => exact stay I9 (q9.1 rfl)
      | true =>
        refine thnF (pk.run _ s9 σ8 H9 _ I9 (q9.2 rfl)) fun z s10 ⟨yk, H10, I10, r10, q10⟩ => ?_
        refine thnF (pv.run _ s10 σ8 H10 _ I10 q10) fun z2 s11 ⟨yv, H11, I11, r11, a, xs, es, k, ek, hX, hK, hk, hz, nx⟩ => ?_
        subst ek
        cases r10
        exact dcx_store (X := X.blk s3 H3 sc ce fp) hu I11 hX hK hk hz r11 fun s12 I12 => stay I12 nx
  subst ece
  subst es4
  subst es3
  exact codeAny_compStart_dict run (T.self X.A 0 _ _ _ st4 run)
  )]
  intro _ hNoI
  simpa using (fun (_ : NoI.Sg) => hNoI) [5]
theorem pe_dcx {ke ve tg it : Expr} {ifs : List Expr} {sc : Scope} {own : List (Str × Nat)} {pos : Pos} {wi : TI} {g : TG} {tt : TT} {tk tv : TE} (hu : X.A.units + 64 < cLine) (hc : X.calm = true) (nd : X.N.Nodup) (wi_ok : PI X tg it wi) (bl : BlkOk X.N X.env.scope sc own)
    (g_ok : ∀ (s : Shared) (H : Hp) (C : Addr) (cl : List (Str × Addr)) (fp : List Addr), PG (X.blk s H sc (compEnvC sc cl C X.env) fp) tg g)
    (t_ok : ∀ (s : Shared) (H : Hp) (C : Addr) (cl : List (Str × Addr)) (fp : List Addr), PTs (X.blk s H sc (compEnvC sc cl C X.env) fp) ifs tt)
    (k_ok : ∀ (s : Shared) (H : Hp) (C : Addr) (cl : List (Str × Addr)) (fp : List Addr), PE (X.blk s H sc (compEnvC sc cl C X.env) fp) ke tk)
    (v_ok : ∀ (s : Shared) (H : Hp) (C : Addr) (cl : List (Str × Addr)) (fp : List Addr), PE (X.blk s H sc (compEnvC sc cl C X.env) fp) ve tv)
    (fold : ∀ x, foldedSetIterable it X.env x = pure x := by intro _; rfl) :
    PE X (.DictComp ke ve [⟨tg, it, ifs, 0⟩] sc pos) (@tDcX ⟨X.w⟩ X.K wi g tt tk tv (own.map (·.2))) := by
  refine NoI.keep (fun _ wNoI => ?_) ?_
  simp only [↓ NoI.wrOf wNoI (by
  clear wNoI
  refine ⟨fun pins s σ H Q I h => ?_⟩
  rw [arm_eval_DictComp]
  refine dcx_block hu hc nd I wi_ok bl g_ok t_ok k_ok v_ok fold h fun q C s' m G I' hq hn f => ⟨m, hn, fun h'' sb => ?_⟩
  obtain ⟨f0, f1, f2, f3, f4, f5⟩ := f
  exact ⟨.ref q, G, I'.turned (t' := s'.toks) (fun b o hb e => (sb.2 b hb).trans e) f0 f1 f3 f4 f5, rfl, hq⟩
  )]
  intro _ hNoI
  simpa using (fun (_ : NoI.Sg) => hNoI) [5]
/-- name = {..}, the name a local -/
theorem ps_setDcx {i : Nat} {y : Str} {py : Pos} {ke ve tg it : Expr} {ifs : List Expr} {sc : Scope} {own : List (Str × Nat)} {pos spos : Pos} {wi : TI} {g : TG} {tt : TT} {tk tv : TE} (hu : X.A.units + 64 < cLine) (hc : X.calm = true) (nd : X.N.Nodup) (hy : X.N[i]? = some y) (hyl : X.env.scope.names.lookup y = some .local)
    (hsw : swapsWith (.DictComp ke ve [⟨tg, it, ifs, 0⟩] sc pos) (some (.Name y py)) spos.line X.env = pure true) (wi_ok : PI X tg it wi) (bl : BlkOk X.N X.env.scope sc own)
    (g_ok : ∀ (s : Shared) (H : Hp) (C : Addr) (cl : List (Str × Addr)) (fp : List Addr), PG (X.blk s H sc (compEnvC sc cl C X.env) fp) tg g)
    (t_ok : ∀ (s : Shared) (H : Hp) (C : Addr) (cl : List (Str × Addr)) (fp : List Addr), PTs (X.blk s H sc (compEnvC sc cl C X.env) fp) ifs tt)
    (k_ok : ∀ (s : Shared) (H : Hp) (C : Addr) (cl : List (Str × Addr)) (fp : List Addr), PE (X.blk s H sc (compEnvC sc cl C X.env) fp) ke tk)
    (v_ok : ∀ (s : Shared) (H : Hp) (C : Addr) (cl : List (Str × Addr)) (fp : List Addr), PE (X.blk s H sc (compEnvC sc cl C X.env) fp) ve tv)
    (fold : ∀ x, foldedSetIterable it X.env x = pure x := by intro _; rfl) :
    PS X (.Assign [.Name y py] (.DictComp ke ve [⟨tg, it, ifs, 0⟩] sc pos) spos) (tAsg (@tDcX ⟨X.w⟩ X.K wi g tt tk tv (own.map (·.2))) (gName i)) := by
  refine NoI.keep (fun _ wNoI => ?_) ?_
  simp only [↓ NoI.wrOf wNoI (by
  clear wNoI
  refine ⟨fun pins s σ H Dd I h => ?_⟩
  rw [exec_Assign_Name_used _ _ _ _ hsw]
  refine wpAny_bind (wpAny_standAt (wpAny_bind ?_))
  have h : @tDcX ⟨X.w⟩ X.K wi g tt tk tv (own.map (·.2)) σ H (fun x H1 => gName i x σ H1 Dd.nx) := h
  show wpAny _ X.A (do let _ ← comprehension (.DictComp ke ve [⟨tg, it, ifs, 0⟩] sc pos) sc X.env (firstIterPos [⟨tg, it, ifs, 0⟩] pos) newDict false (eval it X.env) (some (assign (.Name y py) X.env))) _ _ s
  refine wpAny_bind (thn (dcx_block (Qf := fun _ s' => SP X pins Dd .next s') hu hc nd I wi_ok bl g_ok t_ok k_ok v_ok fold h fun q C s' m G I' hq hn f => ?_) fun _ s' z => wpAny_pure (wpAny_pure z))
  show wpAny _ _ (assign (.Name y py) X.env (.ref q)) _ _ _
  obtain ⟨f0, f1, f2, f3, f4, f5⟩ := f
  refine wpAny_assign_Name (store_ok2 (v := V.ref q) I' nd hy (.inl hyl) rfl (fun s2 I2 ⟨a, sb, ha⟩ => ?_) (.inr hyl))
  have hne : C ≠ a := by
    rcases ha with z | z
    · rw [z]; exact f1
    · exact fun e => f4 y a z e.symm
  exact ⟨m, hn.sameBut sb hne, fun h3 sb3 => ⟨_, G, I2.turned (t' := s2.toks) (fun b o hb e => (sb3.2 b hb).trans e) f0 f1 f3 f4 f5, hq⟩⟩
  )]
  intro _ hNoI
  simpa using (fun (_ : NoI.Sg) => hNoI) [5]
theorem sw_dc {ke ve : Expr} {gs : List Comprehension} {sc : Scope} {pos py : Pos} {y : Str} {l : Nat} {env : Env} (hk : env.scope.kind = .function) (hy : env.scope.names.lookup y = some .local) (hl : (py.line == pos.line) = true)
    (ha : (sc.names.any fun (n, k) => n == y && (k == .local || k == .cell)) = false) : swapsWith (.DictComp ke ve gs sc pos) (some (.Name y py)) l env = pure true := by
  refine NoI.keep (fun _ wNoI => ?_) ?_
  simp only [↓ NoI.wrOf wNoI (by
  clear wNoI
  have ky : env.kindOf y = some .local := hy
  have hb : env.blockKind = .function := by unfold Env.blockKind; rw [hk]; rfl
  unfold swapsWith
  simp only [hb, ky, ha, Expr.pos, hl]
  rfl
  )]
  intro _ hNoI
  simpa using (fun (_ : NoI.Sg) => hNoI) [5]
end
end SH

/-! dict comprehensions over data -/
namespace SH
open PySem PySem.Spec PyProof.Rows L2
section
variable [WW] {K : PySem.W.Frag} {Zc : Addr → Prop} {ad ad' ad2 : List Addr} {H H' H2 : Hp} {m m' m2 : Mem} {σ σ' : L2.St} {s s' s1 : S} {n : Nat} {Q : VK} {Φ : SV → S → Prop} {De : DE}
theorem wipe_wipe (σ : L2.St) (vs : List Nat) : wipe (wipe σ vs) vs = wipe σ vs := by
  refine NoI.keep (fun _ wNoI => ?_) ?_
  simp only [↓ NoI.wrOf wNoI (by
  clear wNoI
  have : ∀ ws : List Nat, (∀ w ∈ ws, w ∈ vs) → wipe (wipe σ vs) ws = wipe σ vs := by
    intro ws hws
    induction ws with
    | nil => rfl
    | cons w ws ih =>
      show (wipe (wipe σ vs) ws).set w none = wipe σ vs
      rw [ih fun z hz => hws z (List.mem_cons_of_mem _ hz)]
      have hm := hws w List.mem_cons_self
      apply List.ext_getElem?
      intro t
      rw [List.getElem?_set]
      by_cases e : w = t
      · subst e
        rw [if_pos rfl]
        split
        · rename_i ht
          cases z : (wipe σ vs)[w]? with
          | none => rw [List.getElem?_eq_none_iff] at z; omega
          | some o =>
            cases o with
            | none => rfl
            | some x => exact absurd hm (wipe_some z).2
        · rename_i ht
          rw [List.getElem?_eq_none_iff.mpr (by omega)]
      · rw [if_neg e]
  exact this vs fun _ h => h
  )]
  intro _ hNoI
  simpa using (fun (_ : NoI.Sg) => hNoI) [5]
theorem ev_dc {wi : TI} {g : TG} {tt : TT} {tk tv : TE} {vs : List Nat} (hw : GW g vs)
    (hi : IterS K Zc wi s fun items s1 => ∃ I : Nat → S → Prop, I 0 ⟨wipeS s1.sl vs, s1.mem ++ [some (.dict [])]⟩ ∧
      (∀ i d s, items[i]? = some d → I i s → s1.mem.length < s.mem.length → GS K Zc g (.dat d) s fun s2 => TtS K Zc tt s2 fun b s3 =>
        (b = true → EvS K Zc tk s3 (asD fun kd s4 => EvS K Zc tv s4 (asD fun y s5 => ∃ es k, kd = kx k ∧ (NestedKey.tup k).depth ≤ 8 ∧ s5.mem[s1.mem.length]? = some (some (.dict (dx es))) ∧ es.length < sizeLine ∧
          To (s1.mem.length + 1) (I (i + 1)) ⟨wipeS s5.sl vs, s5.mem.set s1.mem.length (some (.dict (dx (ptX es k y))))⟩))) ∧
        (b = false → To (s1.mem.length + 1) (I (i + 1)) ⟨wipeS s3.sl vs, s3.mem⟩)) ∧
      (∀ s, I items.length s → Φ (.own s1.mem.length) ⟨wipeS s.sl vs, s.mem⟩)) : EvS K Zc (tDcX K wi g tt tk tv vs) s Φ := by
  refine NoI.keep (fun _ wNoI => ?_) ?_
  simp only [↓ NoI.wrOf wNoI (by
  clear wNoI
  intro ad H σ Q I0 p
  refine hi ad H σ _ I0 fun J ad1 H1 items s1 h1 I1 F1 jok q hq => ?_
  obtain ⟨Inv, h0, hs, hd⟩ := h1
  have p1 := p.step F1
  have F1D : Frm Zc s1.mem.length ad1 s1.mem H1 (adN ad1 s1.mem q) (s1.mem ++ [some (.dict [])]) (upd H1 q (.dK [])) := Frm.newO I1.mr hq
  have atD : (adN ad1 s1.mem q)[s1.mem.length]? = some q := adN_at I1.mr.adl
  refine ⟨fun i k G => i + k = items.length ∧ ∃ ad2 s2, Inv i s2 ∧ s1.mem.length < s2.mem.length ∧ SR K Zc ad2 G (wipe σ vs) s2 ∧ Frm Zc (s1.mem.length + 1) (adN ad1 s1.mem q) (s1.mem ++ [some (.dict [])]) (upd H1 q (.dK [])) ad2 s2.mem G, ⟨items.length, by simp, ?_⟩, ?_⟩
  · exact ⟨_, _, h0, by simp, sr_wipe (I1.newO (ds := .dict []) hq (.dK (kvs := []) (es := []) rfl .nil)) vs, .refl (by simp)⟩
  · rintro i k H2 ⟨hk, ad2, s2, hI, hl, I2, F2⟩
    obtain ⟨jg, js⟩ := jok i ad2 H2 s2.mem (F1D.same.trans F2.same) I2.mr
    by_cases hlt : i < items.length
    · obtain ⟨go, yl⟩ := jg hlt
      refine .inr ⟨go, fun H3 => ∃ ad3 s3, Inv (i + 1) s3 ∧ s1.mem.length < s3.mem.length ∧ SR K Zc ad3 H3 (wipe σ vs) s3 ∧ Frm Zc (s1.mem.length + 1) (adN ad1 s1.mem q) (s1.mem ++ [some (.dict [])]) (upd H1 q (.dK [])) ad3 s3.mem H3, fun H3 q3 => ⟨k - 1, by omega, by omega, q3⟩, fun x H3 y => ?_⟩
      obtain ⟨hh, d, hd', r⟩ := yl x H3 y
      have I3 : SR K Zc ad2 H3 (wipe σ vs) s2 := by
        rcases hh with rfl | ⟨p, o, hp, rfl⟩
        · exact I2
        · exact I2.newT hp
      have F3 : Frm Zc (s1.mem.length + 1) (adN ad1 s1.mem q) (s1.mem ++ [some (.dict [])]) (upd H1 q (.dK [])) ad2 s2.mem H3 := by
        rcases hh with rfl | ⟨p, o, hp, rfl⟩
        · exact F2
        · exact F2.trans (Frm.newT hp) F2.le
      refine hw x _ H3 _ (hs i d s2 hd' hI hl ad2 H3 (wipe σ vs) x _ I3 r fun σ4 sl4 h4 I4 hσ => ?_)
      have hσ' : wipe σ4 vs = wipe σ vs := by rw [hσ]; exact wipe_wipe σ vs
      refine ⟨hσ', h4 ad2 H3 σ4 _ I4 fun b ad5 H5 s5 h5 I5 F5 => ⟨fun hb => ?_, fun hb => ?_⟩⟩
      · have F5' := F3.trans F5 F3.le
        obtain ⟨s6, w6, hl6, q6⟩ := h5.2 hb
        have I6 := sr_wipe (sl := s5.sl) (m := s5.mem) I5 vs
        rw [hσ'] at I6
        exact ⟨ad5, s6, q6, hl6, I6.wk w6, F5'.trans (w6.frm hl6) (Nat.le_refl _)⟩
      · have F5' := F3.trans F5 F3.le
        refine ev_asD (Φ := fun sv s4 => ∃ kd, sv = .dat kd ∧ EvS K Zc tv s4 (asD fun y s5 => ∃ es k, kd = kx k ∧ (NestedKey.tup k).depth ≤ 8 ∧ s5.mem[s1.mem.length]? = some (some (.dict (dx es))) ∧ es.length < sizeLine ∧
          To (s1.mem.length + 1) (Inv (i + 1)) ⟨wipeS s5.sl vs, s5.mem.set s1.mem.length (some (.dict (dx (ptX es k y))))⟩)) (h5.1 hb) (fun d s' z => ⟨d, rfl, z⟩) ad5 H5 σ4 _ I5 ?_
        rintro vk ad6 H6 sv s6 ⟨kd, rfl, h6⟩ I6 F6 r6
        refine ev_asD (Φ := fun sv s5 => ∃ y, sv = .dat y ∧ ∃ es k, kd = kx k ∧ (NestedKey.tup k).depth ≤ 8 ∧ s5.mem[s1.mem.length]? = some (some (.dict (dx es))) ∧ es.length < sizeLine ∧
          To (s1.mem.length + 1) (Inv (i + 1)) ⟨wipeS s5.sl vs, s5.mem.set s1.mem.length (some (.dict (dx (ptX es k y))))⟩) h6 (fun d s' z => ⟨d, rfl, z⟩) ad6 H6 σ4 _ I6 ?_
        rintro vv ad7 H7 sv s7 ⟨y, rfl, es, k2, rfl, hz, e7, hlen, s8, w8, hl8, q8⟩ I7 F7 r7
        have F6' := F5'.trans F6 F5'.le
        have F7' := F6'.trans F7 F6'.le
        have aD7 : ad7[s1.mem.length]? = some q := by rw [F7'.pre _ (Nat.lt_succ_self _), atD]
        obtain ⟨b', ob, e1, e2, e3⟩ := I7.mr.cell _ _ e7
        rw [aD7] at e1; cases e1
        obtain ⟨xs, hK, ho⟩ := cell_x e3
        have hX : IsXw H7 q xs := by
          rcases ho with rfl | ⟨h1, rfl⟩
          · exact .inl e2
          · exact .inr ⟨h1, e2⟩
        have rk := r6.frm F7
        obtain ⟨a, rfl, hkey⟩ := rd_key2 I7.mr rk rfl hz
        have hb2 : DV K (FZ Zc ad7 s7.mem H7) (.ref a) (kx k2) := rk
        refine ⟨a, xs, es, k2, rfl, hX, hK.mono Fz_le, hkey, by rw [hK.len]; exact hlen, ?_⟩
        have I8 := sr_wipe (sl := s7.sl) (m := s7.mem.set s1.mem.length (some (.dict (dx (ptX es k2 y))))) (I7.put e7 aD7 (.dX (KX.dks (hK.put hb2 r7)))) vs
        rw [hσ'] at I8
        exact ⟨ad7, s8, q8, hl8, I8.wk w8, (F7'.trans (Frm.put e7 aD7) F7'.le).trans (w8.frm hl8) (Nat.le_refl _)⟩
    · have e : i = items.length := by omega
      refine .inl ⟨js (by omega), ?_⟩
      have F := F1D.trans F2 (by simp)
      have aD2 : ad2[s1.mem.length]? = some q := by rw [F2.pre _ (Nat.lt_succ_self _), atD]
      refine p1 _ ad2 H2 (.own s1.mem.length) ⟨wipeS s2.sl vs, s2.mem⟩ (hd s2 (e ▸ hI)) (sr_unwipe I2) F ⟨hl, q, aD2, rfl⟩
  )]
  intro _ hNoI
  simpa using (fun (_ : NoI.Sg) => hNoI) [5]
/-- unlike keys, no test: what comes out, item by item -/
theorem ev_dcP {wi : TI} {g : TG} {tk tv : TE} {vs : List Nat} (hw : GW g vs) (hi : IterS K Zc wi s fun items s1 => ∃ out : List (TK × D), out.length = items.length ∧ out.length ≤ 1000000 ∧ (out.map (·.1)).Nodup ∧ (∀ p ∈ out, (NestedKey.tup p.1).depth ≤ 8) ∧
      (∀ (i : Nat) (d : D) (e : TK × D) (m' : Mem), items[i]? = some d → out[i]? = some e → m' = s1.mem ++ [some (.dict (dx (out.take i)))] →
        GS K Zc g (.dat d) ⟨wipeS s1.sl vs, m'⟩ fun s2 => EvS K Zc tk s2 (asD fun kd s3 => EvS K Zc tv s3 (asD fun y s4 => kd = kx e.1 ∧ y = e.2 ∧ Wk ⟨wipeS s4.sl vs, s4.mem⟩ ⟨wipeS s1.sl vs, m'⟩))) ∧
      Φ (.own s1.mem.length) ⟨wipeS s1.sl vs, s1.mem ++ [some (.dict (dx out))]⟩) : EvS K Zc (tDcX K wi g tYes tk tv vs) s Φ := by
  refine NoI.keep (fun _ wNoI => ?_) ?_
  simp only [↓ NoI.wrOf wNoI (by
  clear wNoI
  refine ev_dc hw fun ad H σ R I p => hi ad H σ R I fun J ad' H' items s1 h I' F jok => p J ad' H' items s1 ?_ I' F jok
  obtain ⟨out, hl, hz, hn, hd, hs, hk⟩ := h
  refine ⟨fun i s => s = ⟨wipeS s1.sl vs, s1.mem ++ [some (.dict (dx (out.take i)))]⟩, by simp [dx], ?_, ?_⟩
  · rintro i d _ hi rfl hlt
    have hil : i < items.length := (List.getElem?_eq_some_iff.mp hi).1
    have ho : out[i]? = some (out[i]'(by omega)) := List.getElem?_eq_getElem (by omega)
    intro ad H σ v Q I r k0
    refine hs i d _ _ hi ho rfl ad H σ v Q I r fun σ2 sl2 h2 I2 => k0 σ2 sl2 ?_ I2
    refine tt_yes ⟨fun _ => ?_, fun z => by cases z⟩
    intro ad3 H3 σ3 Q3 I3 p3
    refine h2 ad3 H3 σ3 Q3 I3 ?_
    intro v4 ad4 H4 sv4 s4 h4 I4 F4 r4
    refine p3 v4 ad4 H4 sv4 s4 ?_ I4 F4 r4
    -- the key, frozen
    have sub : ∀ kd s, EvS K Zc tv s (asD fun y s4 => kd = kx (out[i]'(by omega)).1 ∧ y = (out[i]'(by omega)).2 ∧ Wk ⟨wipeS s4.sl vs, s4.mem⟩ ⟨wipeS s1.sl vs, s1.mem ++ [some (.dict (dx (out.take i)))]⟩) →
        EvS K Zc tv s (asD fun y s5 => ∃ es k, kd = kx k ∧ (NestedKey.tup k).depth ≤ 8 ∧ s5.mem[s1.mem.length]? = some (some (.dict (dx es))) ∧ es.length < sizeLine ∧
          To (s1.mem.length + 1) (fun s => s = ⟨wipeS s1.sl vs, s1.mem ++ [some (.dict (dx (out.take (i + 1))))]⟩) ⟨wipeS s5.sl vs, s5.mem.set s1.mem.length (some (.dict (dx (ptX es k y))))⟩) := by
      intro kd s h
      refine EvS.imp h fun sv s5 h5 => ?_
      have go : ∀ (y : D) (s5 : S), (kd = kx (out[i]'(by omega)).1 ∧ y = (out[i]'(by omega)).2 ∧ Wk ⟨wipeS s5.sl vs, s5.mem⟩ ⟨wipeS s1.sl vs, s1.mem ++ [some (.dict (dx (out.take i)))]⟩) → ∃ es k, kd = kx k ∧ (NestedKey.tup k).depth ≤ 8 ∧ s5.mem[s1.mem.length]? = some (some (.dict (dx es))) ∧ es.length < sizeLine ∧
          To (s1.mem.length + 1) (fun s => s = ⟨wipeS s1.sl vs, s1.mem ++ [some (.dict (dx (out.take (i + 1))))]⟩) ⟨wipeS s5.sl vs, s5.mem.set s1.mem.length (some (.dict (dx (ptX es k y))))⟩ := by
        rintro y s5 ⟨rfl, rfl, w⟩
        have hcell : s5.mem[s1.mem.length]? = some (some (.dict (dx (out.take i)))) := w.mem _ _ (by simp)
        refine ⟨out.take i, (out[i]'(by omega)).1, rfl, hd _ (List.getElem_mem _), hcell, by rw [List.length_take, sizeLine_eq]; omega, ?_⟩
        have hput : ptX (out.take i) (out[i]'(by omega)).1 (out[i]'(by omega)).2 = out.take (i + 1) := by
          unfold ptX
          have hno : lkX (out.take i) (out[i]'(by omega)).1 = none := by
            unfold lkX
            rw [List.find?_eq_none.mpr ?_]
            · rfl
            · intro p hp z
              have z := of_decide_eq_true z
              obtain ⟨j, hj⟩ := List.getElem?_of_mem hp
              rw [List.getElem?_take] at hj
              split at hj
              · rename_i hji
                have hjl : j < out.length := (List.getElem?_eq_some_iff.mp hj).1
                have e1 : out[j] = p := by rw [List.getElem?_eq_getElem hjl] at hj; exact Option.some.inj hj
                have := (List.nodup_iff_pairwise_ne.mp hn)
                rw [List.pairwise_iff_getElem] at this
                refine this j i (by rw [List.length_map]; exact hjl) (by rw [List.length_map]; omega) hji ?_
                rw [List.getElem_map, List.getElem_map, e1, z]
              · cases hj
          rw [hno]
          show out.take i ++ [((out[i]'(by omega)).1, (out[i]'(by omega)).2)] = _
          rw [List.take_add_one, ho]
          rfl
        rw [hput]
        refine ⟨⟨wipeS s1.sl vs, s1.mem ++ [some (.dict (dx (out.take (i + 1))))]⟩, ?_, by simp, rfl⟩
        refine ⟨w.len, fun j sv e => ?_, ?_, fun j ds e => ?_⟩
        · rcases w.sl j sv e with z | ⟨z1, z2⟩
          · exact .inl z
          · refine .inr ⟨z1, fun j2 e2 => ?_⟩
            have := z2 j2 e2
            simpa using this
        · have := w.le
          simpa using this
        · have e : (s1.mem ++ [some (.dict (dx (out.take (i + 1))))])[j]? = some (some ds) := e
          show (s5.mem.set s1.mem.length _)[j]? = _
          by_cases hj : j = s1.mem.length
          · subst hj
            simp at e
            subst e
            rw [List.getElem?_set_self (List.getElem?_eq_some_iff.mp hcell).1]
          · rw [List.getElem?_set_ne fun z => hj z.symm]
            refine w.mem j ds ?_
            show (s1.mem ++ [some (.dict (dx (out.take i)))])[j]? = some (some ds)
            by_cases h2 : j < s1.mem.length
            · rw [List.getElem?_append_left h2] at e ⊢; exact e
            · have := (List.getElem?_eq_some_iff.mp e).1
              simp at this
              omega
      cases sv with
      | dat d => exact go d s5 h5
      | own j =>
        simp only [asD] at h5 ⊢
        split at h5
        · exact go _ _ h5
        · exact h5.elim
      | ro _ => exact h5.elim
      | rng _ _ => exact h5.elim
      | exn _ _ _ => exact h5.elim
      | un => exact h5.elim
    cases sv4 with
    | dat d => exact sub d s4 h4
    | own j =>
      simp only [asD] at h4 ⊢
      split at h4
      · exact sub _ _ h4
      · exact h4.elim
    | ro _ => exact h4.elim
    | rng _ _ => exact h4.elim
    | exn _ _ _ => exact h4.elim
    | un => exact h4.elim
  · rintro _ rfl
    have e : out.take items.length = out := by rw [← hl, List.take_length]
    rw [e, wipeS_twice]
    exact hk
  )]
  intro _ hNoI
  simpa using (fun (_ : NoI.Sg) => hNoI) [5]
end
end SH

/-! walks of dicts: their keys, values, pairs -/
namespace SH
open PySem PySem.Spec PyProof.Rows L2
section
variable [WW]
/-- a dict's entries, as values -/
def EntOf (d : Addr) (u : HO) (ps : List (V × V)) : Prop := (∃ kvs : List (Key × V), u = .dK kvs ∧ ps = kvs.map fun p => (kV p.1, p.2)) ∨ ∃ xs : List XE, u = DXo d xs ∧ ps = xs.map fun x => (V.ref x.2.1, x.2.2)
theorem EntOf.dc {d : Addr} {u : HO} {ps : List (V × V)} (h : EntOf d u ps) : Dc u = true ∧ Mut (some u) := by
  rcases h with ⟨_, rfl, _⟩ | ⟨_, rfl, _⟩ <;> exact ⟨rfl, True.intro⟩
def ItkD (d : Addr) (o : Obj) (u : HO) (ps : List (V × V)) : It :=
  ⟨fun i H => H d = some (.frz o u) ∧ i < ps.length, fun i H x H' => H' = H ∧ ∃ y, ps[i]? = some (x, y), fun i H => H d = some (.frz o u) ∧ ps.length ≤ i⟩
def ItvD (d : Addr) (o : Obj) (u : HO) (ps : List (V × V)) : It :=
  ⟨fun i H => H d = some (.frz o u) ∧ i < ps.length, fun i H x H' => H' = H ∧ ∃ y, ps[i]? = some (y, x), fun i H => H d = some (.frz o u) ∧ ps.length ≤ i⟩
def ItiD (d : Addr) (o : Obj) (u : HO) (ps : List (V × V)) : It :=
  ⟨fun i H => H d = some (.frz o u) ∧ i < ps.length, fun i H x H' => ∃ T k v, ps[i]? = some (k, v) ∧ x = .ref T ∧ H T = none ∧ H' = upd H T (.tup [k, v]), fun i H => H d = some (.frz o u) ∧ ps.length ≤ i⟩
/-- it is locked already, or it is locked now -/
def LkR (H : Hp) (d : Addr) (u : HO) (R : Obj → Hp → Prop) : Prop := (∃ o, H d = some (.frz o u) ∧ R o H) ∨ (H d = some u ∧ ∀ o, R o (upd H d (.frz o u)))
end
section
variable {X : Cx} {pins : List (Addr × Obj)} {σ : L2.St} {H : Hp} {s : Shared} {d : Addr} {o : Obj} {u : HO} {ps : List (V × V)}
theorem lk_inv {R : Obj → Hp → Prop} (I : L2.Inv X pins σ H s) (mu : Mut (some u)) (h : LkR H d u R) : ∃ o H2, L2.Inv X pins σ H2 s ∧ H2 d = some (.frz o u) ∧ R o H2 := by
  rcases h with ⟨o, h1, h2⟩ | ⟨h1, h2⟩
  · exact ⟨o, H, I, h1, h2⟩
  · obtain ⟨o, I1⟩ := I.lock h1 mu
    exact ⟨o, _, I1, upd_same, h2 o⟩
theorem frzD (I : L2.Inv X pins σ H s) (h : H d = some (.frz o u)) (e : @EntOf ⟨X.w⟩ d u ps) :
    (d == sysModules) = false ∧ s.heap.get? d = some o ∧ o.ExactDict ∧ ∃ (es : Array DictEntry) (ep : Nat), o.data = .dict es ep ∧ es.size = ps.length ∧ ∀ (i : Nat) (p : V × V), ps[i]? = some p → ∃ hi : i < es.size, RelV p.1 es[i].key ∧ RelV p.2 es[i].val := by
  refine NoI.keep (fun _ wNoI => ?_) ?_
  simp only [↓ NoI.wrOf wNoI (by
  clear wNoI
  rcases e with ⟨kvs, rfl, rfl⟩ | ⟨xs, rfl, rfl⟩
  · obtain ⟨hs, hg, hx, es, ep, vs, hdt, hsz, kv, hm⟩ := I.frzK h
    obtain ⟨es', ep', ⟨o', ho', _, hd'⟩, hz, he⟩ := hm.dictOf.raw
    rw [hg] at ho'
    cases ho'
    obtain ⟨rfl, rfl⟩ := dict_ep hdt hd'
    refine ⟨hs, hg, hx, _, _, hdt, by rw [List.length_map]; exact hsz, fun i p hp => ?_⟩
    rw [List.getElem?_map] at hp
    obtain ⟨⟨k, v⟩, hk, rfl⟩ := Option.map_eq_some_iff.mp hp
    obtain ⟨w, hw, rv⟩ := kv_get kv hk
    have hi : i < es'.size := by
      have := (List.getElem?_eq_some_iff.mp hw).1
      omega
    obtain ⟨q1, q2⟩ := he i hi k w hw
    exact ⟨hi, relV_key q1, by rw [q2]; exact rv⟩
  · obtain ⟨hg, hh⟩ := I.hok d _ h
    obtain ⟨_, hs, ys, r, o', es, ep, g1, g2, g3, g4, _⟩ := hh.1
    rw [hg] at g1
    cases g1
    have l1 : es.size = ys.length := by have := congrArg List.length g4; simpa using this
    refine ⟨hs, hg, g2, es, ep, g3, by rw [List.length_map, l1]; exact (Paired.length r).symm, fun i p hp => ?_⟩
    rw [List.getElem?_map] at hp
    obtain ⟨x, hx, rfl⟩ := Option.map_eq_some_iff.mp hp
    obtain ⟨y, hy, _, e2, e3⟩ := paired_get r hx
    have hi : i < es.size := by
      have := (List.getElem?_eq_some_iff.mp hy).1
      omega
    have e5 : es[i] = @entX ⟨X.w⟩ y := by
      have q : es.toList[i]? = some (@entX ⟨X.w⟩ y) := by rw [g4, List.getElem?_map, hy]; rfl
      rw [Array.getElem?_toList, Array.getElem?_eq_getElem hi] at q
      exact Option.some.inj q
    refine ⟨hi, ?_, ?_⟩
    · rw [e5]; show Value.ref y.2.1 = Value.ref x.2.1; rw [e2]
    · rw [e5]; exact e3
  )]
  intro _ hNoI
  simpa using (fun (_ : NoI.Sg) => hNoI) [5]
end
section
variable {P : Program} {w : World} {K : PySem.W.Frag} {tg : Expr} {d : Addr} {o : Obj} {es : Array DictEntry} {ep : Nat} {u : HO} {ps : List (V × V)}
theorem turn_itemsD (hEnt : @EntOf ⟨w⟩ d u ps) {elts : List Expr} {kk : Nat} {tpos : Pos} (it : Addr) (hod : o.data = .dict es ep) :
    Turn P w K (.Tuple elts kk tpos) (ItiD d o u ps) [it] it (fun i h => ∃ ok ov, IsItemIter h it d i ps.length ep ok ov) where
  mem := by simp
  obj := fun i h st b hb => by
    have e : b = it := by simpa using hb
    subst e
    obtain ⟨ok, ov, e⟩ := st
    exact ⟨_, e, fun v z => nomatch z⟩
  keep := fun i h h' st k => let ⟨ok, ov, e⟩ := st; ⟨ok, ov, k it (by simp) _ e⟩
  item := by
    intro X hP hw hK hc i pins s σ H E I hf st hg
    subst hP hw hK
    obtain ⟨hd, hi⟩ := hg
    obtain ⟨hs, hgd, hx, es', ep', hdt, hsz, ent⟩ := frzD I hd hEnt
    obtain ⟨rfl, rfl⟩ := dict_ep hod hdt
    obtain ⟨⟨k, v⟩, hkv⟩ : ∃ p, ps[i]? = some p := ⟨ps[i], List.getElem?_eq_getElem hi⟩
    obtain ⟨hlt0, rk, rv⟩ := ent i _ hkv
    obtain ⟨ok, ov, he⟩ := st
    rw [← hsz] at he
    have hlt : it < s.heap.objs.size := Heap.lt_size he
    refine wpAny_pyNext_items_item_raw he ⟨o, hgd, hx, hdt⟩ hlt0 fun h' ho hT hz hk => ?_
    refine ⟨_, rfl, wpAny_letOwnedTupleGo_items (s := { s with heap := h' }) ho fun h'' he' sb => ?_⟩
    have hT2 : h''.get? s.heap.objs.size = some { cls := .type "tuple", data := .seq #[es'[i].key, es'[i].val] } := (sb.2 _ (Nat.ne_of_gt hlt)).trans hT
    have new : ObjOk X.prog X.w (upd H s.heap.objs.size (.tup [k, v])) h'' s.heap.objs.size (.tup [k, v]) :=
      ⟨by show 2 ≤ sizeLine; decide, [es'[i].key, es'[i].val], .cons rk (.cons rv .nil), ⟨_, hT2, rfl, _, rfl⟩⟩
    have I1 : L2.Inv X pins σ (upd H s.heap.objs.size (.tup [k, v])) { s with heap := h'' } :=
      I.turnedNew (t' := s.toks) (ch := [it]) (fun b ob hb e => (sb.2 b (by simpa using hb)).trans (hk b ob (by simpa using hb) e)) hf (Nat.le_refl _) new
    refine ⟨.ref s.heap.objs.size, _, I1, rfl, ⟨_, k, v, hkv, rfl, I.hok.fresh (Nat.le_refl _), rfl⟩, ⟨es'[i].key, es'[i].val, ?_⟩, fun b hb => ?_⟩
    · rw [← hsz]; exact he'
    · have e : b = it := by simpa using hb
      rw [e, upd_ne (Nat.ne_of_lt hlt)]
      exact (hf it (by simp)).1
  done := by
    intro X hP hw hK hc i pins s σ H E I hf st hg
    subst hP hw hK
    obtain ⟨hd, hi⟩ := hg
    obtain ⟨f0, f1, f2, f3, f4, f5⟩ := hf it (by simp)
    obtain ⟨hs, hgd, hx, es', ep', hdt, hsz, ent⟩ := frzD I hd hEnt
    obtain ⟨rfl, rfl⟩ := dict_ep hod hdt
    obtain ⟨ok, ov, he⟩ := st
    rw [← hsz] at he
    exact wpAny_pyNext_items_end_raw (I.ok.hd hc) he ⟨o, hgd, hx, hdt⟩ (by omega) fun h' eb => ⟨rfl, I.turned (t' := s.toks) (fun b ob hb e => eb b ob hb e) f0 f1 f3 f4 f5⟩
  self := fun A i s Q E st h => let ⟨_, _, e⟩ := st; PySem.W.kcp_self e h
end
section
variable [WW]
def iValsD (td : TE) : TI := fun σ H R => td σ H fun x H1 => ∃ d u ps, x = .ref d ∧ EntOf d u ps ∧ LkR H1 d u fun o H2 => R (ItvD d o u ps) H2
def iItemsD (td : TE) : TI := fun σ H R => td σ H fun x H1 => ∃ d u ps, x = .ref d ∧ EntOf d u ps ∧ LkR H1 d u fun o H2 => R (ItiD d o u ps) H2
end
section
variable {X : Cx} {tg e : Expr} {td : TE} {apos cpos : Pos}
theorem pi_itemsD {elts : List Expr} {kk : Nat} {tpos : Pos} (he : PE X e td) (hbase : attributeBase e "items" X.env (eval e X.env) = eval e X.env := by rfl) (hline : (apos.endLine == cpos.line) = true := by rfl) :
    PI X (.Tuple elts kk tpos) (.Call (.Attribute e "items" apos) [] [] cpos) (@iItemsD ⟨X.w⟩ td) := by
  refine NoI.keep (fun _ wNoI => ?_) ?_
  simp only [↓ NoI.wrOf wNoI (by
  clear wNoI
  refine ⟨fun pins s σ H R I h => ?_⟩
  refine wpAny_Call_method (T := "dict") (id := "dict.items") hbase rfl hline F.plainAttrs_dict F.slot_dict_items F.type_dict_items (thn (he.run pins s σ H _ I h) fun u0 s1 ⟨x, H0, I0, rx, d, u, ps, ex, en, q⟩ => ?_)
  subst ex
  obtain rfl : u0 = Value.ref d := rx
  obtain ⟨o, H1, I1, hd, q⟩ := lk_inv I0 (@EntOf.dc ⟨X.w⟩ _ _ _ en).2 q
  obtain ⟨hs, hgd, hx, es, ep, hdt, hsz, ent⟩ := frzD I1 hd en
  have hr : s1.heap.DictRaw d es ep := ⟨o, hgd, hx, hdt⟩
  refine ⟨hr.typeIs, fun b e => by cases e; exact ⟨o, hgd, hx.2.1⟩, ?_⟩
  have I2 : L2.Inv X pins σ H1 { s1 with heap := s1.heap.push { cls := .type "dict_items", data := .fields #[.ref d] } } := I1.kept (t' := s1.toks) fun b ob q => Heap.get?_push_of_some _ q
  have fin : wpAny (model X.prog X.w) X.A (pyIter (.ref s1.heap.objs.size)) (PIE X pins σ (.Tuple elts kk tpos) R) X.xe { s1 with heap := s1.heap.push { cls := .type "dict_items", data := .fields #[.ref d] } } := by
    refine wpAny_pyIter_items_raw (d := d) ⟨_, Heap.get?_push_size _ rfl, rfl, rfl⟩ (hr.at fun ob q => Heap.get?_push_of_some _ q) (pi_one (tk := s1.toks) I2 _ (turn_itemsD en _ hdt) ⟨.none, .none, ?_⟩ q)
    rw [← hsz]
    exact Heap.get?_push_size _ rfl
  show wpAny _ _ (callWith cpos (.builtin "dict.items") [.ref d] [] []) _ X.xe s1
  exact method_meetsIn F.slot_dict_items F.entry_dict_items rfl (PySem.evalArgs_none ⟨rfl, hr.typeIs, F.args_dict_items_1 _, _, meets_dict_items_raw d hs, ⟨_, _, hr⟩, fin⟩)
  )]
  intro _ hNoI
  simpa using (fun (_ : NoI.Sg) => hNoI) [5]
end
section
variable [WW] {K : PySem.W.Frag} {Zc : Addr → Prop} {ad ad' : List Addr} {H H' : Hp} {m m' : Mem} {σ : L2.St} {s s' : S} {Φ : SV → S → Prop}
/-- a dict of data comes to be locked -/
theorem sr_lock {d : Addr} {u : HO} {o : Obj} (h : SR K Zc ad H σ s) (hd : FZ Zc ad s.mem H d = some u) (dc : Dc u = true) :
    SR K Zc ad (upd H d (.frz o u)) σ s ∧ Frm Zc s.mem.length ad s.mem H ad s.mem (upd H d (.frz o u)) ∧ FZ Zc ad s.mem (upd H d (.frz o u)) d = some (.frz o u) := by
  refine NoI.keep (fun _ wNoI => ?_) ?_
  simp only [↓ NoI.wrOf wNoI (by
  clear wNoI
  obtain ⟨nz, h1⟩ := Fz_inv hd
  have sm : SmZ (ZZ Zc ad s.mem) H (upd H d (.frz o u)) := fun b x e => by
    by_cases z : b = d
    · subst z
      rw [h1] at e
      cases e
      exact .inr ⟨nz, dc, o, upd_same⟩
    · exact .inl (by rw [upd_ne z]; exact e)
  exact ⟨h.same sm, Frm.ofSame sm, Fz_of nz upd_same⟩
  )]
  intro _ hNoI
  simpa using (fun (_ : NoI.Sg) => hNoI) [5]
/-- the entries are data -/
def EntD (K : PySem.W.Frag) (H : Hp) (ps : List (V × V)) (es : List (D × D)) : Prop := DVs K H (ps.map (·.1)) (es.map (·.1)) ∧ DVs K H (ps.map (·.2)) (es.map (·.2))
theorem kvs_dvs : ∀ {kvs : List (Key × V)}, DVs K H (kvs.map fun p => kV p.1) (kvs.map fun p => kD p.1)
  | [] => .nil
  | (.inl i, _) :: r => .cons (.int i) kvs_dvs
  | (.inr x, _) :: r => .cons (.str x) kvs_dvs
theorem dks_kdvs : ∀ {xs : List XE} {es : List (D × D)}, DKs K H xs es → DVs K H (xs.map fun x => V.ref x.2.1) (es.map (·.1))
  | _, _, .nil => .nil
  | _, _, .cons h1 _ t => .cons h1 (dks_kdvs t)
theorem dict_ent {v : V} {es : List (D × D)} (h : DV K H v (.dict es)) : ∃ d u ps, v = .ref d ∧ EntOf d u ps ∧ Rd H d u ∧ EntD K H ps es := by
  refine NoI.keep (fun _ wNoI => ?_) ?_
  simp only [↓ NoI.wrOf wNoI (by
  clear wNoI
  cases h with
  | dK h1 h2 h3 =>
    refine ⟨_, _, _, rfl, .inl ⟨_, rfl, rfl⟩, h1, ?_, ?_⟩
    · rw [h2, List.map_map]; exact kvs_dvs
    · rw [List.map_map]; exact h3
  | dX h1 h2 =>
    refine ⟨_, _, _, rfl, .inr ⟨_, rfl, rfl⟩, h1, ?_, ?_⟩
    · rw [List.map_map]; exact dks_kdvs h2
    · rw [List.map_map]; exact dks_vals h2
  )]
  intro _ hNoI
  simpa using (fun (_ : NoI.Sg) => hNoI) [5]
theorem EntD.mono (e : Same H H') {ps : List (V × V)} {es : List (D × D)} (h : EntD K H ps es) : EntD K H' ps es := ⟨dpAll_mono e _ _ h.1, dpAll_mono e _ _ h.2⟩
/-- locked, one way or the other -/
theorem lk_of {d : Addr} {u : HO} {ps : List (V × V)} {es : List (D × D)} {R : Obj → Hp → Prop} (I : SR K Zc ad H σ s) (en : EntOf d u ps) (h : Rd (FZ Zc ad s.mem H) d u) (hd : EntD K (FZ Zc ad s.mem H) ps es)
    (k : ∀ o H', SR K Zc ad H' σ s → Frm Zc s.mem.length ad s.mem H ad s.mem H' → FZ Zc ad s.mem H' d = some (.frz o u) → EntD K (FZ Zc ad s.mem H') ps es → R o H') : LkR H d u R := by
  refine NoI.keep (fun _ wNoI => ?_) ?_
  simp only [↓ NoI.wrOf wNoI (by
  clear wNoI
  rcases h with h | ⟨o, h⟩
  · refine .inr ⟨Fz_at h, fun o => ?_⟩
    obtain ⟨a, b, c⟩ := sr_lock (o := o) I h en.dc.1
    exact k o _ a b c (hd.mono b.same)
  · exact .inl ⟨o, Fz_at h, k o _ I (.refl (Nat.le_refl _)) h hd⟩
  )]
  intro _ hNoI
  simpa using (fun (_ : NoI.Sg) => hNoI) [5]
section
variable {d : Addr} {o : Obj} {u : HO} {ps : List (V × V)} {es : List (D × D)} {F : Hp}
theorem jok_keysD (h : F d = some (.frz o u)) (hd : EntD K F ps es) : JOk K Zc (ItkD d o u ps) (es.map (·.1)) F := by
  refine NoI.keep (fun _ wNoI => ?_) ?_
  simp only [↓ NoI.wrOf wNoI (by
  clear wNoI
  intro i ad H m e M
  have hH : H d = some (.frz o u) := Fz_at (e.nd h rfl)
  have hl : (es.map (·.1)).length = ps.length := by rw [← dpAll_len hd.1, List.length_map]
  have hv := dpAll_mono e _ _ hd.1
  refine ⟨fun hi => ⟨⟨hH, by omega⟩, fun x H' y => ?_⟩, fun hi => ⟨hH, by omega⟩⟩
  obtain ⟨rfl, z, hz⟩ := y
  exact ⟨.inl rfl, dpAll_get' hv (by rw [List.getElem?_map, hz]; rfl)⟩
  )]
  intro _ hNoI
  simpa using (fun (_ : NoI.Sg) => hNoI) [5]
theorem jok_valsD (h : F d = some (.frz o u)) (hd : EntD K F ps es) : JOk K Zc (ItvD d o u ps) (es.map (·.2)) F := by
  refine NoI.keep (fun _ wNoI => ?_) ?_
  simp only [↓ NoI.wrOf wNoI (by
  clear wNoI
  intro i ad H m e M
  have hH : H d = some (.frz o u) := Fz_at (e.nd h rfl)
  have hl : (es.map (·.2)).length = ps.length := by rw [← dpAll_len hd.2, List.length_map]
  have hv := dpAll_mono e _ _ hd.2
  refine ⟨fun hi => ⟨⟨hH, by omega⟩, fun x H' y => ?_⟩, fun hi => ⟨hH, by omega⟩⟩
  obtain ⟨rfl, z, hz⟩ := y
  exact ⟨.inl rfl, dpAll_get' hv (by rw [List.getElem?_map, hz]; rfl)⟩
  )]
  intro _ hNoI
  simpa using (fun (_ : NoI.Sg) => hNoI) [5]
/-- a pair of two texts is no pair of such a walk -/
def pairD (es : List (D × D)) : List D := es.map fun p => .tuple [p.1, p.2]
theorem jok_itemsD (h : F d = some (.frz o u)) (hd : EntD K F ps es) (hs : ∀ p ∈ es, strsD [p.1, p.2] = false) : JOk K Zc (ItiD d o u ps) (pairD es) F := by
  refine NoI.keep (fun _ wNoI => ?_) ?_
  simp only [↓ NoI.wrOf wNoI (by
  clear wNoI
  intro i ad H m e M
  have hH : H d = some (.frz o u) := Fz_at (e.nd h rfl)
  have hl : es.length = ps.length := by have := dpAll_len hd.1; simpa using this.symm
  refine ⟨fun hi => ⟨⟨hH, by simpa [pairD, hl] using hi⟩, fun x H' y => ?_⟩, fun hi => ⟨hH, by simpa [pairD, hl] using hi⟩⟩
  obtain ⟨T, k, v, hz, rfl, hT, rfl⟩ := y
  have F1 : Frm Zc m.length ad m H ad m (upd H T (.tup [k, v])) := Frm.newT hT
  have e1 := e.trans F1.same
  have hi : i < es.length := by rw [hl]; exact (List.getElem?_eq_some_iff.mp hz).1
  obtain ⟨a, ha, ra⟩ := dpAll_get' (dpAll_mono e1 _ _ hd.1) (v := k) (i := i) (by rw [List.getElem?_map, hz]; rfl)
  obtain ⟨b, hb, rb⟩ := dpAll_get' (dpAll_mono e1 _ _ hd.2) (v := v) (i := i) (by rw [List.getElem?_map, hz]; rfl)
  rw [List.getElem?_map, List.getElem?_eq_getElem hi] at ha hb
  cases ha
  cases hb
  exact ⟨.inr ⟨T, _, hT, rfl⟩, .tuple [es[i].1, es[i].2], by rw [pairD, List.getElem?_map, List.getElem?_eq_getElem hi]; rfl,
    .tup (.inr ⟨hs _ (List.getElem_mem hi), M.newT_at hT⟩) (.cons ra (.cons rb .nil))⟩
  )]
  intro _ hNoI
  simpa using (fun (_ : NoI.Sg) => hNoI) [5]
end
theorem it_valsD {te : TE} {Ψ : List D → S → Prop} (h : EvS K Zc te s (asD fun d s' => ∃ es, d = .dict es ∧ Ψ (es.map (·.2)) s')) : IterS K Zc (iValsD te) s Ψ := by
  refine NoI.keep (fun _ wNoI => ?_) ?_
  simp only [↓ NoI.wrOf wNoI (by
  clear wNoI
  intro ad H σ R I p
  refine ev_asD (Φ := fun sv s' => ∃ es, sv = .dat (.dict es) ∧ Ψ (es.map (·.2)) s') h (fun d s' ⟨es, e, k⟩ => ⟨es, by rw [e], k⟩) ad H σ _ I fun v ad1 H1 sv s1 h1 I1 F1 r1 => ?_
  obtain ⟨es, rfl, k⟩ := h1
  obtain ⟨d, u, ps, rfl, en, hr, hd⟩ := dict_ent r1
  exact ⟨d, u, ps, rfl, en, lk_of I1 en hr hd fun o H' I2 F2 hf hd2 => p _ ad1 H' _ s1 k I2 (F1.trans F2 F1.le) (jok_valsD hf hd2)⟩
  )]
  intro _ hNoI
  simpa using (fun (_ : NoI.Sg) => hNoI) [5]
theorem it_itemsD {te : TE} {Ψ : List D → S → Prop} (h : EvS K Zc te s (asD fun d s' => ∃ es, d = .dict es ∧ (∀ p ∈ es, strsD [p.1, p.2] = false) ∧ Ψ (pairD es) s')) : IterS K Zc (iItemsD te) s Ψ := by
  refine NoI.keep (fun _ wNoI => ?_) ?_
  simp only [↓ NoI.wrOf wNoI (by
  clear wNoI
  intro ad H σ R I p
  refine ev_asD (Φ := fun sv s' => ∃ es, sv = .dat (.dict es) ∧ (∀ p ∈ es, strsD [p.1, p.2] = false) ∧ Ψ (pairD es) s') h (fun d s' ⟨es, e, k⟩ => ⟨es, by rw [e], k⟩) ad H σ _ I fun v ad1 H1 sv s1 h1 I1 F1 r1 => ?_
  obtain ⟨es, rfl, hs, k⟩ := h1
  obtain ⟨d, u, ps, rfl, en, hr, hd⟩ := dict_ent r1
  exact ⟨d, u, ps, rfl, en, lk_of I1 en hr hd fun o H' I2 F2 hf hd2 => p _ ad1 H' _ s1 k I2 (F1.trans F2 F1.le) (jok_itemsD hf hd2 hs)⟩
  )]
  intro _ hNoI
  simpa using (fun (_ : NoI.Sg) => hNoI) [5]
end
end SH

/-! zip(a, b) walked, of two tuples or two lists -/
namespace SH
open PySem PySem.Spec PyProof.Rows L2
section
variable [WW]
def ItzT (K : PySem.W.Frag) (a b : Addr) : It :=
  ⟨fun i H => ∃ (xs ys : List V) (x y : V), SqT K H a xs ∧ SqT K H b ys ∧ xs[i]? = some x ∧ ys[i]? = some y,
    fun i H v H' => ∃ T x y, v = .ref T ∧ H T = none ∧ H' = upd H T (.tup [x, y]) ∧ (∀ xs, SqT K H a xs → xs[i]? = some x) ∧ ∀ ys, SqT K H b ys → ys[i]? = some y,
    fun i H => ∃ xs ys : List V, SqT K H a xs ∧ SqT K H b ys ∧ (xs.length ≤ i ∨ ys.length ≤ i)⟩
end
section
variable [WW]
def iZipU (K : PySem.W.Frag) (ta : TA) : TI := fun σ H R => ta σ H fun vs H1 => ∃ a b xs ys, vs = [.ref a, .ref b] ∧ ((SqL K H1 a xs ∧ SqL K H1 b ys ∧ R (Itz K a b) H1) ∨ (SqT K H1 a xs ∧ SqT K H1 b ys ∧ R (ItzT K a b) H1))
end
/-- the pairs -/
def zipD (xs ys : List D) : List D := (xs.zip ys).map fun p => .tuple [p.1, p.2]
section
variable [WW] {K : PySem.W.Frag} {Zc : Addr → Prop} {s : S}
theorem zipD_len {xs ys : List D} : (zipD xs ys).length = min xs.length ys.length := by simp [zipD]
theorem dv_two {ad : List Addr} {H : Hp} {m : Mem} {x y : V} {d e : D} {T : Addr} (M : MR K Zc ad H m) (hT : H T = none) (hs : strsD [d, e] = false) (r : DV K (FZ Zc ad m H) x d) (r2 : DV K (FZ Zc ad m H) y e) : DV K (FZ Zc ad m (upd H T (.tup [x, y]))) (.ref T) (.tuple [d, e]) :=
  .tup (.inr ⟨hs, M.newT_at hT⟩) (.cons (dp_mono (Frm.newT (ad := ad) (m := m) hT).same _ _ r) (.cons (dp_mono (Frm.newT (ad := ad) (m := m) hT).same _ _ r2) .nil))
theorem jok_zip {a b : Addr} {vs us : List V} {xs ys : List D} {F : Hp} (h : F a = some (.lst vs)) (hv : DVs K F vs xs) (h2 : F b = some (.lst us)) (hu : DVs K F us ys) (hs : ∀ p ∈ xs.zip ys, strsD [p.1, p.2] = false) : JOk K Zc (Itz K a b) (zipD xs ys) F := by
  refine NoI.keep (fun _ wNoI => ?_) ?_
  simp only [↓ NoI.wrOf wNoI (by
  clear wNoI
  intro i ad H m e M
  have ha : SqL K H a vs := SqL.of (Fz_at (e.nd h rfl))
  have hb : SqL K H b us := SqL.of (Fz_at (e.nd h2 rfl))
  have hv' := dpAll_mono e _ _ hv
  have hu' := dpAll_mono e _ _ hu
  have l1 := dpAll_len hv
  have l2 := dpAll_len hu
  refine ⟨fun hi => ?_, fun hi => ⟨vs, us, ha, hb, by rw [zipD_len] at hi; omega⟩⟩
  rw [zipD_len] at hi
  refine ⟨⟨vs, us, vs[i]'(by omega), us[i]'(by omega), ha, hb, List.getElem?_eq_getElem _, List.getElem?_eq_getElem _⟩, fun x H' y => ?_⟩
  obtain ⟨T, z, w, rfl, hT, rfl, hz, hw⟩ := y
  obtain ⟨d, hd, r⟩ := dpAll_get' hv' (hz vs ha)
  obtain ⟨d2, hd2, r2⟩ := dpAll_get' hu' (hw us hb)
  have hp : (xs.zip ys)[i]? = some (d, d2) := List.getElem?_zip_eq_some.mpr ⟨hd, hd2⟩
  exact ⟨.inr ⟨T, _, hT, rfl⟩, .tuple [d, d2], by rw [zipD, List.getElem?_map, hp]; rfl, dv_two M hT (hs _ (List.mem_of_getElem? hp)) r r2⟩
  )]
  intro _ hNoI
  simpa using (fun (_ : NoI.Sg) => hNoI) [5]
theorem jok_zipT {a b : Addr} {vs us : List V} {xs ys : List D} {F : Hp} (h : SqT K F a vs) (hv : DVs K F vs xs) (h2 : SqT K F b us) (hu : DVs K F us ys) (hs : ∀ p ∈ xs.zip ys, strsD [p.1, p.2] = false) : JOk K Zc (ItzT K a b) (zipD xs ys) F := by
  refine NoI.keep (fun _ wNoI => ?_) ?_
  simp only [↓ NoI.wrOf wNoI (by
  clear wNoI
  intro i ad H m e M
  have ha : SqT K H a vs := sqT_same Fz_le (sqT_same e h)
  have hb : SqT K H b us := sqT_same Fz_le (sqT_same e h2)
  have hv' := dpAll_mono e _ _ hv
  have hu' := dpAll_mono e _ _ hu
  have l1 := dpAll_len hv
  have l2 := dpAll_len hu
  refine ⟨fun hi => ?_, fun hi => ⟨vs, us, ha, hb, by rw [zipD_len] at hi; omega⟩⟩
  rw [zipD_len] at hi
  refine ⟨⟨vs, us, vs[i]'(by omega), us[i]'(by omega), ha, hb, List.getElem?_eq_getElem _, List.getElem?_eq_getElem _⟩, fun x H' y => ?_⟩
  obtain ⟨T, z, w, rfl, hT, rfl, hz, hw⟩ := y
  obtain ⟨d, hd, r⟩ := dpAll_get' hv' (hz vs ha)
  obtain ⟨d2, hd2, r2⟩ := dpAll_get' hu' (hw us hb)
  have hp : (xs.zip ys)[i]? = some (d, d2) := List.getElem?_zip_eq_some.mpr ⟨hd, hd2⟩
  exact ⟨.inr ⟨T, _, hT, rfl⟩, .tuple [d, d2], by rw [zipD, List.getElem?_map, hp]; rfl, dv_two M hT (hs _ (List.mem_of_getElem? hp)) r r2⟩
  )]
  intro _ hNoI
  simpa using (fun (_ : NoI.Sg) => hNoI) [5]
theorem it_zip {ta : TA} {Ψ : List D → S → Prop} (h : ArD K Zc ta s fun ds s' => ∃ d e xs ys, ds = [d, e] ∧ ((d = .list xs ∧ e = .list ys) ∨ (d = .tuple xs ∧ e = .tuple ys)) ∧ (∀ p ∈ xs.zip ys, strsD [p.1, p.2] = false) ∧ Ψ (zipD xs ys) s') : IterS K Zc (iZipU K ta) s Ψ := by
  refine NoI.keep (fun _ wNoI => ?_) ?_
  simp only [↓ NoI.wrOf wNoI (by
  clear wNoI
  intro ad H σ R I p
  refine h ad H σ _ I fun vs ad1 H1 svs s1 h1 I1 F1 r1 => ?_
  obtain ⟨ds, hx, d, e, xs, ys, rfl, hk, hs, k⟩ := h1
  subst hx
  obtain ⟨v, u, rfl, r, r'⟩ := vrs2 r1
  rcases hk with ⟨rfl, rfl⟩ | ⟨rfl, rfl⟩
  · obtain ⟨a, ws, rfl, h2, h3⟩ := lst_of (show DV K _ v (.list xs) from r)
    obtain ⟨b, us, rfl, h4, h5⟩ := lst_of (show DV K _ u (.list ys) from r')
    exact ⟨a, b, ws, us, rfl, .inl ⟨SqL.of (Fz_at h2), SqL.of (Fz_at h4), p _ ad1 H1 _ s1 k I1 F1 (jok_zip h2 h3 h4 h5 hs)⟩⟩
  · obtain ⟨a, ws, rfl, h2, h3⟩ := tup_of (show DV K _ v (.tuple xs) from r)
    obtain ⟨b, us, rfl, h4, h5⟩ := tup_of (show DV K _ u (.tuple ys) from r')
    exact ⟨a, b, ws, us, rfl, .inr ⟨sqT_same Fz_le h2, sqT_same Fz_le h4, p _ ad1 H1 _ s1 k I1 F1 (jok_zipT h2 h3 h4 h5 hs)⟩⟩
  )]
  intro _ hNoI
  simpa using (fun (_ : NoI.Sg) => hNoI) [5]
end
end SH

/-! walks of whatever it is, a dict too; len of whatever it is; len(set(l)) -/
namespace SH
open PySem PySem.Spec PyProof.Rows L2
section
variable [WW]
def iWalk (K : PySem.W.Frag) (te : TE) : TI := fun σ H R => te σ H fun x H1 => ((∃ a, x = .ref a ∧ (∃ xs, SqL K H1 a xs) ∧ R (Itl K a) H1) ∨ (∃ a, x = .ref a ∧ (∃ xs, SqT K H1 a xs) ∧ R (Itt K a) H1) ∨ ∃ z, x = .str z ∧ R (Its z) H1) ∨
  ∃ d u ps, x = .ref d ∧ EntOf d u ps ∧ LkR H1 d u fun o H2 => R (ItkD d o u ps) H2
def rLenX (K : PySem.W.Frag) : List V → Hp → VK → Prop := fun xs H Q => rLenU K xs H Q ∨ (∃ a kvs, xs = [.ref a] ∧ Rd H a (.dK kvs) ∧ Q (.int (kvs.length : Nat)) H) ∨ ∃ a ys es, xs = [.ref a] ∧ Rd H a (DXo a ys) ∧ DKs K H ys es ∧ Q (.int (ys.length : Nat)) H
end
/-- what is walked, item by item -/
def walkD : D → Option (List D)
  | .list ds => some ds
  | .tuple ds => some ds
  | .str z => some (strD z)
  | .dict es => some (es.map (·.1))
  | _ => none
def lenD : D → Option Nat
  | .list ds => some ds.length
  | .tuple ds => some ds.length
  | .dict es => some es.length
  | _ => none
section
variable [WW] {K : PySem.W.Frag} {Zc : Addr → Prop} {s : S} {x : SV} {Φ : SV → S → Prop}
theorem it_walk {te : TE} {Ψ : List D → S → Prop} (h : EvS K Zc te s (asD fun d s' => ∃ ds, walkD d = some ds ∧ Ψ ds s')) : IterS K Zc (iWalk K te) s Ψ := by
  refine NoI.keep (fun _ wNoI => ?_) ?_
  simp only [↓ NoI.wrOf wNoI (by
  clear wNoI
  intro ad H σ R I p
  refine ev_asD (Φ := fun sv s' => ∃ d ds, sv = .dat d ∧ walkD d = some ds ∧ Ψ ds s') h (fun d s' ⟨ds, e, k⟩ => ⟨d, ds, rfl, e, k⟩) ad H σ _ I fun v ad1 H1 sv s1 h1 I1 F1 r1 => ?_
  obtain ⟨d, ds, rfl, e, k⟩ := h1
  cases d with
  | list es =>
    cases e
    obtain ⟨a, vs, rfl, h2, h3⟩ := lst_of r1
    exact .inl (.inl ⟨a, rfl, ⟨vs, SqL.of (Fz_at h2)⟩, p _ ad1 H1 ds s1 k I1 F1 (jok_list h2 h3)⟩)
  | tuple es =>
    cases e
    obtain ⟨a, vs, rfl, h2, h3⟩ := tup_of r1
    exact .inl (.inr (.inl ⟨a, rfl, ⟨vs, sqT_same Fz_le h2⟩, p _ ad1 H1 ds s1 k I1 F1 (jok_tup h2 h3)⟩))
  | str z =>
    cases e
    cases r1
    exact .inl (.inr (.inr ⟨z, rfl, p _ ad1 H1 _ s1 k I1 F1 jok_str⟩))
  | dict es =>
    cases e
    obtain ⟨d, u, ps, rfl, en, hr, hd⟩ := dict_ent r1
    exact .inr ⟨d, u, ps, rfl, en, lk_of I1 en hr hd fun o H' I2 F2 hf hd2 => p _ ad1 H' _ s1 k I2 (F1.trans F2 F1.le) (jok_keysD hf hd2)⟩
  | none => cases e
  | bool _ => cases e
  | int _ => cases e
  )]
  intro _ hNoI
  simpa using (fun (_ : NoI.Sg) => hNoI) [5]
theorem cb_lx {d : D} {n : Nat} (h1 : rd s.mem x = some d) (hn : lenD d = some n) (k : Φ (.dat (.int n)) s) : CbS K Zc (rLenX K) [x] s Φ := by
  refine NoI.keep (fun _ wNoI => ?_) ?_
  simp only [↓ NoI.wrOf wNoI (by
  clear wNoI
  intro ad H σ vs Q I r p
  obtain ⟨v, rfl, r1⟩ := vrs1 r
  cases d with
  | list ds => cases hn; exact .inl (cb_lenL h1 k ad H σ _ Q I r p)
  | tuple ds => cases hn; exact .inl (cb_lenT h1 k ad H σ _ Q I r p)
  | dict es =>
    cases hn
    have dv := rd_D I.mr r1 h1
    cases dv with
    | dK a1 b1 c1 =>
      refine .inr (.inl ⟨_, _, rfl, a1, ?_⟩)
      have hl := dpAll_len c1
      simp only [List.length_map] at hl
      rw [hl]
      exact p.val I k (sv := .dat _) (.int _)
    | dX a1 b1 =>
      refine .inr (.inr ⟨_, _, _, rfl, a1, b1, ?_⟩)
      have hl := dpAll_len (dks_vals b1)
      simp only [List.length_map] at hl
      rw [hl]
      exact p.val I k (sv := .dat _) (.int _)
  | none => cases hn
  | bool _ => cases hn
  | int _ => cases hn
  | str _ => cases hn
  )]
  intro _ hNoI
  simpa using (fun (_ : NoI.Sg) => hNoI) [5]
/-- len(set(l)), l a list of unlike ints -/
theorem ev_lenSet {te : TE} (h : EvS K Zc te s (asD fun d s' => ∃ ns : List Int, d = .list (ns.map .int) ∧ ns.Nodup ∧ ns.length ≤ 4000 ∧ Φ (.dat (.int ns.length)) s')) : EvS K Zc (RZ.tLenSetI K te) s Φ := by
  refine NoI.keep (fun _ wNoI => ?_) ?_
  simp only [↓ NoI.wrOf wNoI (by
  clear wNoI
  intro ad H σ Q I p
  refine ev_asD (Φ := fun sv s' => ∃ ns : List Int, sv = .dat (.list (ns.map .int)) ∧ ns.Nodup ∧ ns.length ≤ 4000 ∧ Φ (.dat (.int ns.length)) s') h (fun d s' ⟨ns, e, k⟩ => ⟨ns, by rw [e], k⟩) ad H σ _ I fun v ad1 H1 sv s1 h1 I1 F1 r1 => ?_
  obtain ⟨ns, rfl, hn, hz, k⟩ := h1
  obtain ⟨a, vs, rfl, h2, h3⟩ := lst_of (show DV K _ v (.list (ns.map .int)) from r1)
  have := dpAll_ints h3
  subst this
  exact ⟨a, ns, rfl, SqL.of (Fz_at h2), hn, hz, (p.step F1).val I1 k (sv := .dat _) (.int _)⟩
  )]
  intro _ hNoI
  simpa using (fun (_ : NoI.Sg) => hNoI) [5]
end
end SH

/-! a dict comprehension with a test, unlike keys -/
namespace SH
open PySem PySem.Spec PyProof.Rows L2
variable [WW] {K : PySem.W.Frag} {Zc : Addr → Prop} {s s' s1 : S} {Φ : SV → S → Prop}
theorem lkX_none {A : List (TK × D)} {k : TK} (h : k ∉ A.map (·.1)) : lkX A k = none := by
  unfold lkX
  rw [List.find?_eq_none.mpr ?_]
  · rfl
  · intro p hp z
    exact h (List.mem_map.mpr ⟨p, hp, of_decide_eq_true z⟩)
theorem ev_dcF {wi : TI} {g : TG} {tt : TT} {tk tv : TE} {vs : List Nat} (hw : GW g vs) (hi : IterS K Zc wi s fun items s1 => ∃ f : D → Option (TK × D), items.length ≤ 1000000 ∧ ((items.filterMap f).map (·.1)).Nodup ∧ (∀ p ∈ items.filterMap f, (NestedKey.tup p.1).depth ≤ 8) ∧
      (∀ (i : Nat) (d : D) (m' : Mem), items[i]? = some d → m' = s1.mem ++ [some (.dict (dx ((items.take i).filterMap f)))] →
        GS K Zc g (.dat d) ⟨wipeS s1.sl vs, m'⟩ fun s2 => TtS K Zc tt s2 fun b s3 =>
          (b = true → ∃ e, f d = some e ∧ EvS K Zc tk s3 (asD fun kd s4 => EvS K Zc tv s4 (asD fun y s5 => kd = kx e.1 ∧ y = e.2 ∧ Wk ⟨wipeS s5.sl vs, s5.mem⟩ ⟨wipeS s1.sl vs, m'⟩))) ∧
          (b = false → f d = none ∧ Wk ⟨wipeS s3.sl vs, s3.mem⟩ ⟨wipeS s1.sl vs, m'⟩)) ∧
      Φ (.own s1.mem.length) ⟨wipeS s1.sl vs, s1.mem ++ [some (.dict (dx (items.filterMap f)))]⟩) : EvS K Zc (tDcX K wi g tt tk tv vs) s Φ := by
  refine NoI.keep (fun _ wNoI => ?_) ?_
  simp only [↓ NoI.wrOf wNoI (by
  clear wNoI
  refine ev_dc hw fun ad H σ R I p => hi ad H σ R I fun J ad' H' items s1 h I' F jok => p J ad' H' items s1 ?_ I' F jok
  obtain ⟨f, hz, hn, hd, hs, hk⟩ := h
  refine ⟨fun i s => s = ⟨wipeS s1.sl vs, s1.mem ++ [some (.dict (dx ((items.take i).filterMap f)))]⟩, by simp [dx], ?_, ?_⟩
  · rintro i d _ hi rfl hlt
    have hil : i < items.length := (List.getElem?_eq_some_iff.mp hi).1
    have tk1 : (items.take (i + 1)).filterMap f = (items.take i).filterMap f ++ (f d).toList := by
      rw [List.take_add_one, hi, List.filterMap_append]
      congr 1
    intro ad H σ v Q I r k0
    refine hs i d _ hi rfl ad H σ v Q I r fun σ2 sl2 h2 I2 => k0 σ2 sl2 ?_ I2
    intro ad3 H3 σ3 Q3 I3 p3
    refine h2 ad3 H3 σ3 Q3 I3 fun b ad4 H4 s4 hb I4 F4 => p3 b ad4 H4 s4 ⟨fun hbt => ?_, fun hbf => ?_⟩ I4 F4
    · obtain ⟨e, he, hev⟩ := hb.1 hbt
      rw [he] at tk1
      have hmem : e ∈ items.filterMap f := List.mem_filterMap.mpr ⟨d, List.mem_of_getElem? hi, he⟩
      have hput : ptX ((items.take i).filterMap f) e.1 e.2 = (items.take (i + 1)).filterMap f := by
        have hno : lkX ((items.take i).filterMap f) e.1 = none := by
          refine lkX_none fun z => ?_
          have sp : items.filterMap f = (items.take (i + 1)).filterMap f ++ (items.drop (i + 1)).filterMap f := by rw [← List.filterMap_append, List.take_append_drop]
          rw [sp, tk1, List.map_append, List.map_append] at hn
          have := (List.nodup_append.mp (List.nodup_append.mp hn).1).2.2
          exact this _ z e.1 (by simp) rfl
        unfold ptX
        rw [hno, tk1]
        rfl
      refine EvS.imp hev fun sv s5 h5 => ?_
      have sub : ∀ kd s, EvS K Zc tv s (asD fun y s4 => kd = kx e.1 ∧ y = e.2 ∧ Wk ⟨wipeS s4.sl vs, s4.mem⟩ ⟨wipeS s1.sl vs, s1.mem ++ [some (.dict (dx ((items.take i).filterMap f)))]⟩) →
          EvS K Zc tv s (asD fun y s5 => ∃ es k, kd = kx k ∧ (NestedKey.tup k).depth ≤ 8 ∧ s5.mem[s1.mem.length]? = some (some (.dict (dx es))) ∧ es.length < sizeLine ∧
            To (s1.mem.length + 1) (fun s => s = ⟨wipeS s1.sl vs, s1.mem ++ [some (.dict (dx ((items.take (i + 1)).filterMap f)))]⟩) ⟨wipeS s5.sl vs, s5.mem.set s1.mem.length (some (.dict (dx (ptX es k y))))⟩) := by
        intro kd s h
        refine EvS.imp h fun sv s5 h5 => ?_
        have go : ∀ (y : D) (s5 : S), (kd = kx e.1 ∧ y = e.2 ∧ Wk ⟨wipeS s5.sl vs, s5.mem⟩ ⟨wipeS s1.sl vs, s1.mem ++ [some (.dict (dx ((items.take i).filterMap f)))]⟩) → ∃ es k, kd = kx k ∧ (NestedKey.tup k).depth ≤ 8 ∧ s5.mem[s1.mem.length]? = some (some (.dict (dx es))) ∧ es.length < sizeLine ∧
            To (s1.mem.length + 1) (fun s => s = ⟨wipeS s1.sl vs, s1.mem ++ [some (.dict (dx ((items.take (i + 1)).filterMap f)))]⟩) ⟨wipeS s5.sl vs, s5.mem.set s1.mem.length (some (.dict (dx (ptX es k y))))⟩ := by
          rintro y s5 ⟨rfl, rfl, w⟩
          have hcell : s5.mem[s1.mem.length]? = some (some (.dict (dx ((items.take i).filterMap f)))) := w.mem _ _ (by simp)
          have hlen : ((items.take i).filterMap f).length ≤ 1000000 := Nat.le_trans (List.length_filterMap_le _ _) (by rw [List.length_take]; omega)
          refine ⟨_, e.1, rfl, hd _ hmem, hcell, by rw [sizeLine_eq]; omega, ?_⟩
          rw [hput]
          refine ⟨⟨wipeS s1.sl vs, s1.mem ++ [some (.dict (dx ((items.take (i + 1)).filterMap f)))]⟩, ?_, by simp, rfl⟩
          refine ⟨w.len, fun j sv e => ?_, ?_, fun j ds e => ?_⟩
          · rcases w.sl j sv e with z | ⟨z1, z2⟩
            · exact .inl z
            · refine .inr ⟨z1, fun j2 e2 => ?_⟩
              have := z2 j2 e2
              simpa using this
          · have := w.le
            simpa using this
          · have e : (s1.mem ++ [some (.dict (dx ((items.take (i + 1)).filterMap f)))])[j]? = some (some ds) := e
            show (s5.mem.set s1.mem.length _)[j]? = _
            by_cases hj : j = s1.mem.length
            · subst hj
              simp at e
              subst e
              rw [List.getElem?_set_self (List.getElem?_eq_some_iff.mp hcell).1]
            · rw [List.getElem?_set_ne fun z => hj z.symm]
              refine w.mem j ds ?_
              show (s1.mem ++ [some (.dict (dx ((items.take i).filterMap f)))])[j]? = some (some ds)
              by_cases h2 : j < s1.mem.length
              · rw [List.getElem?_append_left h2] at e ⊢; exact e
              · have := (List.getElem?_eq_some_iff.mp e).1
                simp at this
                omega
        cases sv with
        | dat d => exact go d s5 h5
        | own j =>
          simp only [asD] at h5 ⊢
          split at h5
          · exact go _ _ h5
          · exact h5.elim
        | ro _ => exact h5.elim
        | rng _ _ => exact h5.elim
        | exn _ _ _ => exact h5.elim
        | un => exact h5.elim
      cases sv with
      | dat d => exact sub d s5 h5
      | own j =>
        simp only [asD] at h5 ⊢
        split at h5
        · exact sub _ _ h5
        · exact h5.elim
      | ro _ => exact h5.elim
      | rng _ _ => exact h5.elim
      | exn _ _ _ => exact h5.elim
      | un => exact h5.elim
    · obtain ⟨hf, w⟩ := hb.2 hbf
      rw [hf] at tk1
      refine ⟨_, w, by simp, ?_⟩
      show _ = _
      rw [tk1]
      simp
  · rintro _ rfl
    rw [List.take_length, wipeS_twice]
    exact hk
  )]
  intro _ hNoI
  simpa using (fun (_ : NoI.Sg) => hNoI) [5]
end SH

/-! d.get(k, x), d a dict with tuple keys -/
namespace SH
open PySem PySem.Spec PyProof.Rows L2
section
variable [WW]
def tDGX (K : PySem.W.Frag) (td ty tx : TE) : TE := fun σ H Q => td σ H fun x H1 => ∃ (a : Addr) (xs : List XE) (es : List (TK × D)), x = .ref a ∧ IsX H1 a xs ∧ KX K H1 xs es ∧ ty σ H1 fun y H2 => tx σ H2 fun z H3 =>
  ∃ (b : Addr) (xs : List XE) (es : List (TK × D)) (k : TK), y = .ref b ∧ IsX H3 a xs ∧ KX K H3 xs es ∧ KeyX K H3 b k ∧ Q ((atX xs k).getD z) H3
end
theorem pe_dgX {X : Cx} {o e f : Expr} {apos cpos : Pos} {td ty tx : TE} (hu : X.A.units + 64 < cLine) (ho : PE X o td) (he : PE X e ty) (hf : PE X f tx) (m : M2 X o "get" apos e f cpos) : PE X (.Call (.Attribute o "get" apos) [e, f] [] cpos) (@tDGX ⟨X.w⟩ X.K td ty tx) := by
  refine NoI.keep (fun _ wNoI => ?_) ?_
  simp only [↓ NoI.wrOf wNoI (by
  clear wNoI
  refine ⟨fun pins s σ H Q I h => ?_⟩
  refine wpAny_Call_method m.base m.few m.line PySem.F.plainAttrs_dict PySem.F.slot_dict_get PySem.F.type_dict_get (thn (ho.run pins s σ H _ I h) fun u s1 ⟨x, H1, I1, rx, a, xs, es, ex, hX, hK, q1⟩ => ?_)
  subst ex
  obtain rfl : u = Value.ref a := rx
  obtain ⟨ys, _, dd, _, _⟩ := isx_of I1 hX (@KX.dks ⟨X.w⟩ _ _ _ _ hK)
  refine ⟨dd.typeIs, fun b q => ?_, ?_⟩
  · cases q
    obtain ⟨ob, _, _, h1, h2, _⟩ := dd
    exact ⟨ob, h1, h2.2.1⟩
  rw [m.trees]
  refine Calls.callWith_builtin rfl (Calls.evalArgs_plain (Calls.spliced_cons (thn (he.run pins s1 σ H1 _ I1 q1) fun iv s2 ⟨y, H2, I2, ry, q2⟩ =>
    Calls.spliced_cons (thn (hf.run pins s2 σ H2 _ I2 q2) fun fv s3 ⟨z, H3, I3, rz, b, xs3, es3, k, ey, hX3, hK3, hk, q3⟩ => Calls.spliced_nil ?_))))
  subst ey
  cases (show iv = Value.ref b from ry)
  obtain ⟨zs, rel, d3, _, hs⟩ := isx_of I3 hX3 (@KX.dks ⟨X.w⟩ _ _ _ _ hK3)
  have ro := xes_at (k := k) rel
  refine call_meetsIn PySem.F.slot_dict_get d3.typeIs PySem.F.entry_dict_get (PySem.F.args_dict_get_3 _ _ _) (meetsH_dict_get_default (nestedKind X.prog X.w) a b hs fv) ⟨?_, .tup k, zs, key_is I3 hk, d3, ?_⟩
  · show X.A.units + 1 + 8 < cLine
    omega
  · exact ⟨_, H3, I3.tok _, ro.getD rz, q3⟩
  )]
  intro _ hNoI
  simpa using (fun (_ : NoI.Sg) => hNoI) [5]
section
variable [WW] {K : PySem.W.Frag} {Zc : Addr → Prop} {s : S} {Φ : SV → S → Prop}
theorem ev_dgX {td ty tx : TE} (h : EvS K Zc td s fun x s1 => ∃ es0, rd s1.mem x = some (.dict (dx es0)) ∧ EvS K Zc ty s1 fun y s2 => EvS K Zc tx s2 fun z s3 =>
    ∃ es k d, rd s3.mem x = some (.dict (dx es)) ∧ rd s3.mem y = some (kx k) ∧ (NestedKey.tup k).depth ≤ 8 ∧ z = .dat d ∧ Φ (.dat ((lkX es k).getD d)) s3) : EvS K Zc (tDGX K td ty tx) s Φ := by
  refine NoI.keep (fun _ wNoI => ?_) ?_
  simp only [↓ NoI.wrOf wNoI (by
  clear wNoI
  intro ad H σ Q I p
  refine h ad H σ _ I fun v1 ad1 H1 x s1 h1 I1 F1 r1 => ?_
  obtain ⟨es0, e0, h1⟩ := h1
  obtain ⟨a, xs, rfl, hX, hK⟩ := rd_x I1.mr r1 e0
  refine ⟨a, xs, es0, rfl, hX, hK.mono Fz_le, ?_⟩
  refine h1 ad1 H1 σ _ I1 fun v2 ad2 H2 y s2 h2 I2 F2 r2 => ?_
  refine h2 ad2 H2 σ _ I2 fun v3 ad3 H3 z s3 h3 I3 F3 r3 => ?_
  obtain ⟨es, k, d, e1, e2, hz, rfl, q⟩ := h3
  obtain ⟨a', xs', ea, hX', hK'⟩ := rd_x I3.mr ((r1.frm F2).frm F3) e1
  cases ea
  obtain ⟨b, rfl, hk⟩ := rd_key2 I3.mr (r2.frm F3) e2 hz
  refine ⟨b, xs', es, k, rfl, hX', hK'.mono Fz_le, hk, ?_⟩
  have F13 := (F1.trans F2 F1.le).trans F3 (Nat.le_trans F1.le F2.le)
  refine p _ ad3 H3 _ s3 q I3 F13 ?_
  cases e : lkX es k with
  | none => rw [(hK'.at (k := k)).2 e]; exact r3
  | some d' =>
    obtain ⟨w, e1, e2⟩ := (hK'.at (k := k)).1 d' e
    rw [e1]
    exact e2
  )]
  intro _ hNoI
  simpa using (fun (_ : NoI.Sg) => hNoI) [5]
/-- reversed(range(n)) -/
theorem it_revR1 {ta : TE} {Ψ : List D → S → Prop} (h : EvS K Zc ta s fun x s1 => ∃ j : Int, x = .dat (.int j) ∧ (-(2 ^ 62) ≤ j ∧ j < 2 ^ 62) ∧ Ψ (rangeC (0 + (((j - 0).toNat : Nat) : Int) - 1) (-1) (j - 0).toNat) s1) : IterS K Zc (iRevR (tRg1 ta)) s Ψ := by
  refine NoI.keep (fun _ wNoI => ?_) ?_
  simp only [↓ NoI.wrOf wNoI (by
  clear wNoI
  intro ad H σ R I p
  refine h ad H σ _ I fun v ad1 H1 x s1 h1 I1 F1 r1 => ?_
  obtain ⟨j, rfl, b, k⟩ := h1
  cases r1
  exact ⟨j, rfl, by decide, by decide, b.1, b.2, p _ ad1 H1 _ s1 k I1 F1 jok_rangeC⟩
  )]
  intro _ hNoI
  simpa using (fun (_ : NoI.Sg) => hNoI) [5]
end
end SH

/-! the empty tuple so many times -/
namespace SH
open PySem PySem.Spec PyProof.Rows L2
/-! a tuple or list of whatever items against the empty one -/
section
variable [WW]
end
section
variable [WW] {K : PySem.W.Frag} {Zc : Addr → Prop} {s : S} {x y : SV} {Φ : SV → S → Prop}
end
end SH

/-! d.clear() for dicts of tuple keys; sum(d.values()); len(set(l)) where all items are one int -/
namespace SH
open PySem PySem.Spec PyProof.Rows L2
theorem walks_vals {prog : Program} {w : World} {A : Around} (hh : A.handled = none) (it d : Addr) (hne : d ≠ it) (es : Array DictEntry) (ep : Nat) :
    Walks prog w A it [it, d] [it] es.size (fun i v => ∃ h : i < es.size, v = es[i].val) (fun i h => h.IsValIter it d i es.size ep ∧ h.DictRaw d es ep) where
  sub := fun b hb => List.mem_cons.mpr (.inl (List.mem_singleton.mp hb))
  frame := fun i h h' st hk => ⟨st.1.at fun oi q => hk it List.mem_cons_self oi q, st.2.at fun ob q => hk d (List.mem_cons_of_mem _ List.mem_cons_self) ob q⟩
  item := fun i s Q E hi st hQ => wpAny_pyNext_values_item_raw st.1 st.2 hi fun h' q1 q2 =>
    hQ _ h' s.toks ⟨hi, rfl⟩ ⟨q1, st.2.at fun ob q => (q2.2 d hne).trans q⟩ fun b ob nb q => (q2.2 b fun z => nb (List.mem_singleton.mpr z)).trans q
  done := fun s Q E st hQ => wpAny_pyNext_values_end_raw hh st.1 st.2 (Nat.le_refl _) fun h' q2 => hQ h' s.toks fun b ob nb q => q2 b ob (fun z => nb (List.mem_singleton.mpr z)) q
  self := fun i s Q E st hQ => wpAny_pyIter_valiter st.1 hQ
theorem preSum_list (ns : List Int) : preSum (fun i => ns.getD i 0) ns.length = ns.sum := by
  refine NoI.keep (fun _ wNoI => ?_) ?_
  simp only [↓ NoI.wrOf wNoI (by
  clear wNoI
  have key : ∀ n, n ≤ ns.length → preSum (fun i => ns.getD i 0) n = (ns.take n).sum := by
    intro n
    induction n with
    | zero => intro _; rfl
    | succ n ih =>
      intro hn
      show preSum _ n + ns.getD n 0 = _
      rw [ih (by omega), List.take_succ, List.getElem?_eq_getElem (by omega), List.sum_append, List.getD_eq_getElem?_getD, List.getElem?_eq_getElem (by omega)]
      simp
  rw [key _ (Nat.le_refl _), List.take_length]
  )]
  intro _ hNoI
  simpa using (fun (_ : NoI.Sg) => hNoI) [5]
def tSumV [WW] (td : TE) : TE := fun σ H Q => td σ H fun x H1 => ∃ d u ps, ∃ ns : List Int, x = .ref d ∧ EntOf d u ps ∧ Rd H1 d u ∧ ps.map (·.2) = ns.map V.int ∧ Q (.int ns.sum) H1
theorem pe_sumV {X : Cx} {e : Expr} {td : TE} {p pos apos cpos : Pos} (hc : X.calm = true) (hg : Gl X "sum") (hm : X.mg "sum" = none) (he : PE X e td)
    (hbase : attributeBase e "values" X.env (eval e X.env) = eval e X.env := by rfl) (hline : (apos.endLine == cpos.line) = true := by rfl)
    (na : starEach [.Call (.Attribute e "values" apos) [] [] cpos] X.env = (false, eval (.Call (.Attribute e "values" apos) [] [] cpos) X.env) :: starEach [] X.env := by rfl) :
    PE X (.Call (.Name "sum" p) [.Call (.Attribute e "values" apos) [] [] cpos] [] pos) (@tSumV ⟨X.w⟩ td) := by
  refine NoI.keep (fun _ wNoI => ?_) ?_
  simp only [↓ NoI.wrOf wNoI (by
  clear wNoI
  refine ⟨fun pins s σ H Q I h => ?_⟩
  refine Call_ (ld_blt I hg hm (show bootBuiltins "sum" = some (.builtin "sum") by decide +kernel) ?_)
  refine PyProof.Rows.callWith_builtin1 (PyProof.Rows.args_cons ?_ na) rfl rfl
  refine wpAny_Call_method (T := "dict") (id := "dict.values") hbase rfl hline F.plainAttrs_dict F.slot_dict_values F.type_dict_values (thn (he.run pins s σ H _ I h) fun u0 s1 ⟨x, H0, I0, rx, d, u, ps, ns, ex, en, hrd, hns, q⟩ => ?_)
  subst ex
  obtain rfl : u0 = Value.ref d := rx
  obtain ⟨o, H1, I1, hd⟩ : ∃ o H1, L2.Inv X pins σ H1 s1 ∧ H1 d = some (.frz o u) := by
    rcases hrd with z | ⟨o, z⟩
    · obtain ⟨o, J⟩ := I0.lock z (@EntOf.dc ⟨X.w⟩ _ _ _ en).2
      exact ⟨o, _, J, upd_same⟩
    · exact ⟨o, H0, I0, z⟩
  obtain ⟨hs, hgd, hx, es, ep, hdt, hsz, ent⟩ := frzD I1 hd en
  have hr : s1.heap.DictRaw d es ep := ⟨o, hgd, hx, hdt⟩
  refine ⟨hr.typeIs, fun b e => by cases e; exact ⟨o, hgd, hx.2.1⟩, ?_⟩
  have hlt : d < s1.heap.objs.size := Heap.lt_size hgd
  have l2 : ns.length = es.size := by have := congrArg List.length hns; simp at this; omega
  have fin : wpAny (model X.prog X.w) X.A (call (.builtin "sum") [.ref s1.heap.objs.size]) (EP X pins σ Q) X.xe { s1 with heap := s1.heap.push { cls := .type "dict_values", data := .fields #[.ref d] } } := by
    refine call_sum_walkAnyS (wpAny_pyIter_values_raw (d := d) ⟨_, Heap.get?_push_size _ rfl, rfl, rfl⟩ (hr.at fun ob q => Heap.get?_push_of_some _ q) ?_)
    have hh : X.A.in1.handled = none := I0.ok.hd hc
    have hp : (s1.heap.push { cls := .type "dict_values", data := .fields #[.ref d] }).objs.size = s1.heap.objs.size + 1 := Array.size_push _
    refine ⟨_, _, _, _, es.size, _, _, fun i => ns.getD i 0, rfl, (walks_vals hh _ d (by show d ≠ (s1.heap.push { cls := .type "dict_values", data := .fields #[.ref d] }).objs.size; rw [hp]; exact Nat.ne_of_lt (Nat.lt_succ_of_lt hlt)) es ep).toS, ?_, ?_, ?_, ?_⟩
    · refine ⟨?_, hr.at fun ob q => Heap.get?_push_of_some _ (Heap.get?_push_of_some _ q)⟩
      exact ⟨_, Heap.get?_push_size _ rfl, rfl, rfl⟩
    · intro b hb
      show b < ((s1.heap.push _).push _).objs.size
      rw [show ((s1.heap.push { cls := .type "dict_values", data := .fields #[.ref d] }).push _).objs.size = (s1.heap.push { cls := .type "dict_values", data := .fields #[.ref d] }).objs.size + 1 from Array.size_push _, hp]
      rcases List.mem_cons.mp hb with z | z
      · have z : b = (s1.heap.push { cls := .type "dict_values", data := .fields #[.ref d] }).objs.size := z
        rw [hp] at z
        rw [z]
        exact Nat.lt_succ_self _
      · have z : b = d := by simpa using z
        rw [z]
        exact Nat.lt_of_lt_of_le hlt (Nat.le_add_right _ 2)
    · rintro i v ⟨hi, rfl⟩
      obtain ⟨⟨k, y⟩, hk⟩ : ∃ p, ps[i]? = some p := ⟨ps[i], List.getElem?_eq_getElem (by omega)⟩
      obtain ⟨_, _, rv⟩ := ent i _ hk
      have hy : y = V.int (ns.getD i 0) := by
        have h1 := congrArg (·[i]?) hns
        simp only [List.getElem?_map, hk, Option.map_some] at h1
        rw [List.getElem?_eq_getElem (by omega)] at h1
        rw [List.getD_eq_getElem?_getD, List.getElem?_eq_getElem (by omega)]
        exact Option.some.inj h1
      rw [hy] at rv
      exact rv
    · intro s' t' hm'
      have hk : ∀ b o, s1.heap.get? b = some o → s'.heap.get? b = some o := fun b ob q => by
        refine hm'.heap b ob (fun z => ?_) (Heap.get?_push_of_some _ (Heap.get?_push_of_some _ q))
        have z : b = (s1.heap.push { cls := .type "dict_values", data := .fields #[.ref d] }).objs.size := List.mem_singleton.mp z
        rw [hp] at z
        have := Heap.lt_size q
        rw [z] at this
        exact absurd this (Nat.not_lt.mpr (Nat.le_succ _))
      rw [Moved.eq_with hm']
      refine ⟨.int ns.sum, H0, I0.kept (h' := s'.heap) (t' := s'.toks) fun b ob q => hk b ob q, ⟨t', ?_⟩, q⟩
      rw [← l2, preSum_list]
  exact method_meetsIn F.slot_dict_values F.entry_dict_values rfl (PySem.evalArgs_none ⟨rfl, hr.typeIs, F.args_dict_values_1 _, _, meets_dict_values_raw d hs, ⟨_, _, hr⟩, PyProof.Rows.args_nil fin⟩)
  )]
  intro _ hNoI
  simpa using (fun (_ : NoI.Sg) => hNoI) [5]
section
variable {X : Cx}
end
/-! len(set(l)), all items the same int -/
/-! the rules -/
section
variable [WW] {K : PySem.W.Frag} {Zc : Addr → Prop} {s : S} {x y : SV} {Φ : SV → S → Prop}
theorem ev_sumV {td : TE} (h : EvS K Zc td s (asD fun d s' => ∃ (es : List (D × D)) (ns : List Int), d = .dict es ∧ es.map (·.2) = ns.map .int ∧ Φ (.dat (.int ns.sum)) s')) : EvS K Zc (tSumV td) s Φ := by
  refine NoI.keep (fun _ wNoI => ?_) ?_
  simp only [↓ NoI.wrOf wNoI (by
  clear wNoI
  intro ad H σ Q I p
  refine ev_asD (Φ := fun sv s' => ∃ (es : List (D × D)) (ns : List Int), sv = .dat (.dict es) ∧ es.map (·.2) = ns.map .int ∧ Φ (.dat (.int ns.sum)) s') h (fun d s' ⟨es, ns, e, k⟩ => ⟨es, ns, by rw [e], k⟩) ad H σ _ I fun v ad1 H1 sv s1 h1 I1 F1 r1 => ?_
  obtain ⟨es, ns, rfl, he, k⟩ := h1
  obtain ⟨d, u, ps, rfl, en, hr, hd⟩ := dict_ent (show DV K _ v (.dict es) from r1)
  have h2 := hd.2
  rw [he] at h2
  exact ⟨d, u, ps, ns, rfl, en, rd_same hr Fz_le, dpAll_ints h2, (p.step F1).val I1 k (sv := .dat _) (.int _)⟩
  )]
  intro _ hNoI
  simpa using (fun (_ : NoI.Sg) => hNoI) [5]
end
end SH

/-! a name of the module that holds an int -/
namespace SH
open PySem PySem.Spec PyProof.Rows L2
end SH

/-! sets whose members are tuples of texts, ints and such tuples: set(l), with fewer than 64 unlike members -/
namespace SH
open PySem PySem.Spec PyProof.Rows L2
/-- the key k stands at b -/
abbrev KAt (P : Program) (w : World) (h : Heap) (k : NestedKey) (b : Addr) : Prop := (nestedKind P w).is h k b
section
variable {P : Program} {w : World} {A : Around} {E : Value → Shared → Prop} {s : Shared}
theorem KAt.keep {h h' : Heap} {k : NestedKey} {b : Addr} (x : KAt P w h k b) (hk : ∀ c ob, h.get? c = some ob → h'.get? c = some ob) : KAt P w h' k b :=
  ⟨NestedIs.at (fun c ob _ _ e _ => hk c ob e) k _ x.1, x.2⟩
theorem KAt.but {h h' : Heap} {k : NestedKey} {b q : Addr} {ob : Obj} {es : Array (Int × Value)} {ep : Nat} {t : SetTable} (x : KAt P w h k b) (e : h.get? q = some ob) (ed : ob.data = .set es ep t) (sb : Heap.SameBut q h h') : KAt P w h' k b := by
  refine ⟨NestedIs.at (fun c oc vs n ec dc => (sb.2 c fun z => ?_).trans ec) k _ x.1, x.2⟩
  rw [z, e] at ec
  cases ec
  rw [ed] at dc
  cases dc
mutual
/-- whether its hash is told by value: whatever the answer is -/
theorem byVal_key : ∀ (k : NestedKey) (v : Value) (n : Nat) (s : Shared) (Q : Bool → Shared → Prop), NestedIs s.heap k v → k.depth ≤ n → (∀ r, Q r s) → wpAny (model P w) A (hashByValue n v) Q E s
  | .none, _, n, s, Q, x, _, h => by
    cases x
    cases n <;> exact wpAny_pure (h _)
  | .num i, _, n, s, Q, x, _, h => by
    cases x <;> cases n <;> exact wpAny_pure (h _)
  | .text y, _, n, s, Q, x, _, h => by
    cases x
    cases n <;> exact wpAny_pure (h _)
  | .tup ks, _, 0, s, Q, x, hn, h => by simp only [NestedKey.depth] at hn; omega
  | .tup ks, _, n + 1, s, Q, x, hn, h => by
    simp only [NestedKey.depth] at hn
    cases x with
    | @tup a o vs m _ hg hc hd hks =>
      have al := byVal_keys ks vs.toList n hks (by omega)
      unfold hashByValue
      refine wpAny_bind (wpAny_specialOf ⟨o, hg, hc⟩ F.slot_tuple_hash.lookup ?_)
      show wpAny _ _ (seqItems? (.ref a) >>= _) _ _ s
      refine wpAny_bind (wpAny_seqItems hg hd (wpAny_bind ?_))
      show wpAny _ _ (forIn vs _ _) _ _ s
      rw [← Array.forIn_toList]
      refine wpAny_forIn_list _ (fun rest r s' => r.1 = none ∧ s' = s ∧ ∀ u ∈ rest, u ∈ vs.toList) _ ?_ ?_ _ _ ⟨rfl, rfl, fun _ z => z⟩
      · rintro u rest r s' ⟨hr, rfl, hin⟩
        refine wpAny_bind (al u (hin u List.mem_cons_self) s' _ rfl fun b => ?_)
        cases b
        · refine wpAny_pure ?_
          exact wpAny_pure (h _)
        · exact wpAny_pure ⟨rfl, rfl, fun z hz => hin z (List.mem_cons_of_mem _ hz)⟩
      · rintro ⟨r1, r2⟩ s' ⟨hr, rfl, _⟩
        simp only at hr
        subst hr
        exact wpAny_pure (h _)
theorem byVal_keys : ∀ (ks : List NestedKey) (vs : List Value) (n : Nat) {s0 : Shared}, NestedAll s0.heap ks vs → NestedKey.depthAll ks ≤ n → ∀ u ∈ vs, ∀ (s : Shared) (Q : Bool → Shared → Prop), s = s0 → (∀ r, Q r s) → wpAny (model P w) A (hashByValue n u) Q E s
  | [], _, n, s0, x, _, u, hu => by cases x; cases hu
  | k :: ks, _, n, s0, x, hn, u, hu => by
    simp only [NestedKey.depthAll] at hn
    cases x with
    | cons x1 x2 =>
      rintro s Q rfl h
      rcases List.mem_cons.mp hu with rfl | hu
      · exact byVal_key k _ n s Q x1 (by omega) h
      · exact byVal_keys ks _ n x2 (by omega) u hu s Q rfl h
end
mutual
/-- it is of no class statement -/
theorem ofStat_key : ∀ (k : NestedKey) (v : Value) (n : Nat) (s : Shared) (Q : Bool → Shared → Prop), NestedIs s.heap k v → k.depth ≤ n → Q false s → wpAny (model P w) A (ofAClassStatement n v) Q E s
  | .none, _, n, s, Q, x, _, h => by
    cases x
    cases n <;> exact wpAny_pure h
  | .num i, _, n, s, Q, x, _, h => by
    cases x <;> cases n <;> exact wpAny_pure h
  | .text y, _, n, s, Q, x, _, h => by
    cases x
    cases n <;> exact wpAny_pure h
  | .tup ks, _, 0, s, Q, x, hn, h => by simp only [NestedKey.depth] at hn; omega
  | .tup ks, _, n + 1, s, Q, x, hn, h => by
    simp only [NestedKey.depth] at hn
    cases x with
    | @tup a o vs m _ hg hc hd hks =>
      have al := ofStat_keys ks vs.toList n hks (by omega)
      unfold ofAClassStatement
      refine wpAny_bind (wpAny_typeOf (T := "tuple") ⟨o, hg, hc⟩ ?_)
      show wpAny _ _ (do let ut ← pure true; _) _ _ s
      refine wpAny_bind (wpAny_pure ?_)
      show wpAny _ _ (seqItems? (.ref a) >>= _) _ _ s
      refine wpAny_bind (wpAny_seqItems hg hd (wpAny_bind ?_))
      show wpAny _ _ (forIn vs _ _) _ _ s
      rw [← Array.forIn_toList]
      refine wpAny_forIn_list _ (fun rest r s' => r.1 = none ∧ s' = s ∧ ∀ u ∈ rest, u ∈ vs.toList) _ ?_ ?_ _ _ ⟨rfl, rfl, fun _ z => z⟩
      · rintro u rest r s' ⟨hr, rfl, hin⟩
        refine wpAny_bind (al u (hin u List.mem_cons_self) s' _ rfl ?_)
        exact wpAny_pure ⟨rfl, rfl, fun z hz => hin z (List.mem_cons_of_mem _ hz)⟩
      · rintro ⟨r1, r2⟩ s' ⟨hr, rfl, _⟩
        simp only at hr
        subst hr
        exact wpAny_pure h
theorem ofStat_keys : ∀ (ks : List NestedKey) (vs : List Value) (n : Nat) {s0 : Shared}, NestedAll s0.heap ks vs → NestedKey.depthAll ks ≤ n → ∀ u ∈ vs, ∀ (s : Shared) (Q : Bool → Shared → Prop), s = s0 → Q false s → wpAny (model P w) A (ofAClassStatement n u) Q E s
  | [], _, n, s0, x, _, u, hu => by cases x; cases hu
  | k :: ks, _, n, s0, x, hn, u, hu => by
    simp only [NestedKey.depthAll] at hn
    cases x with
    | cons x1 x2 =>
      rintro s Q rfl h
      rcases List.mem_cons.mp hu with rfl | hu
      · exact ofStat_key k _ n s Q x1 (by omega) h
      · exact ofStat_keys ks _ n x2 (by omega) u hu s Q rfl h
end
/-- the search tells nothing of itself -/
theorem unseen {k : NestedKey} {b : Addr} {Q : Bool → Shared → Prop} (x : KAt P w s.heap k b) {ys : List Value} (hy : ∀ y ∈ ys, ∃ l c, y = Value.ref c ∧ KAt P w s.heap l c) (h : Q false s) : wpAny (model P w) A (searchCouldBeSeen (.ref b) ys) Q E s := by
  refine NoI.keep (fun _ wNoI => ?_) ?_
  simp only [↓ NoI.wrOf wNoI (by
  clear wNoI
  unfold searchCouldBeSeen
  refine wpAny_bind (wpAny_forIn_list _ (fun rest r s' => s' = s ∧ r.1 = none ∧ ∀ y ∈ rest, ∃ l c, y = Value.ref c ∧ KAt P w s.heap l c) _ ?_ ?_ _ _ ⟨rfl, rfl, hy⟩)
  · rintro v rest r s' ⟨rfl, hr, al⟩
    obtain ⟨l, c, rfl, z⟩ := al v List.mem_cons_self
    have al' : ∀ y ∈ rest, ∃ l c, y = Value.ref c ∧ KAt P w s'.heap l c := fun u hu => al u (List.mem_cons_of_mem _ hu)
    dsimp only
    by_cases hv : (b == c || (carriedByValue (.ref b) && carriedByValue (.ref c))) = true
    · exact wp_if_pos hv (wpAny_pure ⟨rfl, rfl, al'⟩)
    · refine wp_if_neg hv (wpAny_bind ((nestedKind P w).quiet x ?_))
      simp only [Bool.not_true, Bool.false_eq_true, if_false]
      refine wpAny_bind ((nestedKind P w).quiet z ?_)
      simp only [Bool.not_true, Bool.false_eq_true, if_false]
      refine wpAny_bind (ofStat_key k _ 8 s' _ x.1 x.2 ?_)
      simp only [Bool.false_eq_true, if_false]
      refine wpAny_bind (ofStat_key l _ 8 s' _ z.1 z.2 ?_)
      simp only [Bool.false_eq_true, if_false]
      exact wpAny_pure ⟨rfl, rfl, al'⟩
  · rintro ⟨r1, r2⟩ s' ⟨rfl, hr, _⟩
    simp only at hr
    subst hr
    exact wpAny_pure h
  )]
  intro _ hNoI
  simpa using (fun (_ : NoI.Sg) => hNoI) [5]
end
end SH

/-! the search in such a set, and adding -/
namespace SH
open PySem PySem.Spec PyProof.Rows L2
/-- a set at a: its entries in the table's order -/
structure StR (P : Program) (w : World) (h : Heap) (a : Addr) (L : List (Addr × NestedKey)) (es : Array (Int × Value)) (ep : Nat) (t : SetTable) : Prop where
  obj : ∃ ob, h.get? a = some ob ∧ ob.ExactSet ∧ ob.data = .set es ep t
  row : es.toList = L.map fun p => (p.2.hash w, Value.ref p.1)
  tab : TabOk t (L.map fun p => p.2.hash w)
  dif : (L.map (·.2)).Nodup
  key : ∀ p ∈ L, KAt P w h p.2 p.1
  led : w.params.followText "set-order" = true ∨ t.led = true
  roo : L.length * 5 < t.mask * 3
  few : L.length < 64
abbrev wayP (m : Nat) (h : Int) (c : Nat) : SetTable.Probe := nth m (runAt m (SetTable.bits h % (m + 1)) (SetTable.bits h)) c
theorem nth_none (m : Nat) : ∀ (n : Nat) (p : SetTable.Probe), p.dummy = none → (nth m p n).dummy = none
  | 0, _, h => h
  | n + 1, p, h => by
    refine nth_none m n (adv m p) ?_
    unfold adv
    split
    · exact h
    · exact h
theorem wayP_none (m : Nat) (h : Int) (c : Nat) : (wayP m h c).dummy = none := nth_none m c _ rfl
theorem wayP_add (m : Nat) (h : Int) (c q : Nat) : nth m (wayP m h c) q = wayP m h (c + q) := (nth_add m c _ q).symm
section
variable {P : Program} {w : World} {A : Around} {E : Value → Shared → Prop} {s : Shared} {a : Addr} {L : List (Addr × NestedKey)} {es : Array (Int × Value)} {ep : Nat} {t : SetTable}
theorem StR.len (R : StR P w s.heap a L es ep t) : es.size = L.length := by
  have := congrArg List.length R.row
  simpa using this
theorem StR.fit (R : StR P w s.heap a L es ep t) : t.fits es.size = true := by
  refine NoI.keep (fun _ wNoI => ?_) ?_
  simp only [↓ NoI.wrOf wNoI (by
  clear wNoI
  have z1 : t.place.size = L.length := by have := R.tab.sz; simpa using this
  have z2 := R.len
  have z3 := R.roo
  unfold SetTable.fits SetTable.fill
  rw [R.tab.dm]
  simp only [Bool.and_eq_true, beq_iff_eq, decide_eq_true_eq]
  exact ⟨by rw [z1, z2], by show t.place.size + 0 ≤ t.mask; omega⟩
  )]
  intro _ hNoI
  simpa using (fun (_ : NoI.Sg) => hNoI) [5]
theorem StR.ent (R : StR P w s.heap a L es ep t) {i : Nat} {p : Addr × NestedKey} (h : L[i]? = some p) : es[i]? = some (p.2.hash w, Value.ref p.1) := by
  have := congrArg (·[i]?) R.row
  simpa [h] using this
theorem StR.odd (R : StR P w s.heap a L es ep t) : ¬ t.gaveWay = true := by
  have := mask_odd R.tab.mok
  unfold SetTable.gaveWay
  simp [this]
theorem look_from (R : StR P w s.heap a L es ep t) {x : Addr} {k : NestedKey} (hx : KAt P w s.heap k x) (hu : A.units + 8 < cLine) {K : Nat} (b1 : K < 10 * SetTable.turns t.mask)
    (b2 : way t.mask (k.hash w) K ∉ t.place.toList) (b3 : ∀ c, c < K → way t.mask (k.hash w) c ∈ t.place.toList) {Q : SetFound → Shared → Prop}
    (yes : k ∈ L.map (·.2) → Q (.there none) s) (no : k ∉ L.map (·.2) → Q (.free (way t.mask (k.hash w) K) false) s) :
    ∀ (f c : Nat) (st : Option SetTable.Probe), st.getD (t.probeStart (k.hash w)) = wayP t.mask (k.hash w) c → c ≤ K → K < f + c →
      (∀ (i : Nat) (p : Addr × NestedKey), L[i]? = some p → p.2 = k → ∃ d, c ≤ d ∧ d < K ∧ t.place.toList[i]? = some (way t.mask (k.hash w) d)) →
      wpAny (model P w) A (setSearchFrom a (.ref x) (k.hash w) true f st) Q E s := by
  refine NoI.keep (fun _ wNoI => ?_) ?_
  simp only [↓ NoI.wrOf wNoI (by
  clear wNoI
  intro f
  induction f with
  | zero => intro c st _ hc hf; omega
  | succ f ih =>
    intro c st est hc hf rch
    obtain ⟨ob, g1, g2, g3⟩ := R.obj
    rw [setSearchFrom_succ]
    refine wpAny_bind (wpAny_setState_of g1 g3 R.fit ?_)
    dsimp only
    refine wp_if_neg R.odd ?_
    try refine wpAny_bind (wpAny_pure ?_)
    have hash : ∀ (i : Nat) (p : Addr × NestedKey), L[i]? = some p → (es[i]?.map (·.1)).getD 0 = p.2.hash w := fun i p hp => by rw [R.ent hp] <;> rfl
    rw [est]
    rcases go_spec t R.tab.ris R.tab.dm (fun i => (es[i]?.map (·.1)).getD 0) (k.hash w) (10 * SetTable.turns t.mask) (K - c) (wayP t.mask (k.hash w) c) (wayP_none _ _ _) (by omega)
      (fun q hq => by rw [wayP_add]; exact b3 (c + q) (by omega)) (by rw [wayP_add, show c + (K - c) = K by omega]; exact b2) with ⟨q, i, hq, hi, hh, hno, hgo⟩ | ⟨hno, hgo⟩
    · rw [wayP_add] at hi
      rw [wayP_add, wayP_add] at hgo
      have hp : t.probe (fun i => (es[i]?.map (·.1)).getD 0) (k.hash w) (wayP t.mask (k.hash w) c) = some (.candidate (wayP t.mask (k.hash w) (c + q)).j i (wayP t.mask (k.hash w) (c + (q + 1)))) := hgo
      rw [hp]
      dsimp only
      have hil : i < L.length := by
        have z1 := (List.getElem?_eq_some_iff.mp hi).1
        have z2 : t.place.size = L.length := by have := R.tab.sz; simpa using this
        simpa [z2] using z1
      obtain ⟨p, hpe⟩ : ∃ p, L[i]? = some p := ⟨L[i], List.getElem?_eq_getElem hil⟩
      have hpm : p ∈ L := List.mem_of_getElem? hpe
      have pk := R.key p hpm
      have lives : t.slot (wayP t.mask (k.hash w) (c + q)).j = .live i := slot_live R.tab.ris hi
      have rest : wpAny (model P w) A (searchRest a (.ref x) (k.hash w) true f es t (wayP t.mask (k.hash w) (c + q)).j i (wayP t.mask (k.hash w) (c + (q + 1)))) Q E s := by
        unfold searchRest
        rw [R.ent hpe]
        dsimp only
        refine wpAny_bind (wpAny_holding ((nestedKind P w).eqBool hu pk hx ?_))
        refine wpAny_bind (wpAny_setState_of g1 g3 R.fit ?_)
        dsimp only
        by_cases same : p.2 = k
        · refine wp_if_pos (by simp [same]) (wpAny_pure (yes (List.mem_map.mpr ⟨p, hpm, same⟩)))
        refine wp_if_neg (by simp [same]) ?_
        try refine wpAny_bind (wpAny_pure ?_)
        rw [sameMem]
        dsimp only
        simp only [if_true, lives, R.ent hpe]
        refine wpAny_bind (wpAny_isSame_ref_self (wpAny_bind (wpAny_pure ?_)))
        simp only [if_true]
        refine wp_if_neg (by simp [same]) (ih (c + (q + 1)) _ rfl (by omega) (by omega) fun j r hj er => ?_)
        obtain ⟨d, d1, d2, d3⟩ := rch j r hj er
        refine ⟨d, ?_, d2, d3⟩
        rcases Nat.lt_or_ge d (c + q) with lt | ge
        · refine absurd ((hash j r hj).trans (by rw [er])) (hno (d - c) j (by omega) ?_)
          rw [wayP_add, show c + (d - c) = d by omega]
          exact d3
        · rcases Nat.eq_or_lt_of_le ge with eq | gt
          · exfalso
            rw [← eq] at d3
            have live2 := slot_live R.tab.ris d3
            rw [show way t.mask (k.hash w) (c + q) = (wayP t.mask (k.hash w) (c + q)).j from rfl, lives] at live2
            injection live2 with live2
            rw [← live2, hpe] at hj
            cases hj
            exact same er
          · omega
      by_cases hl : t.led = true
      · refine wp_if_neg (by simp [hl]) ?_
        try refine wpAny_bind (wpAny_pure ?_)
        exact rest
      · refine wp_if_pos (by simp [hl]) (wpAny_bind (unseen hx (fun y hy => ?_) ?_))
        · obtain ⟨e, he, rfl⟩ := List.mem_map.mp hy
          have he : e ∈ es.toList := by
            have : e ∈ es := by simp at he; exact he.1
            simpa using this
          rw [R.row] at he
          obtain ⟨r, hr, rfl⟩ := List.mem_map.mp he
          exact ⟨r.2, r.1, rfl, R.key r hr⟩
        · refine wp_if_neg (by decide) ?_
          try refine wpAny_bind (wpAny_pure ?_)
          exact rest
    · rw [wayP_add, show c + (K - c) = K by omega] at hgo
      have hp : t.probe (fun i => (es[i]?.map (·.1)).getD 0) (k.hash w) (wayP t.mask (k.hash w) c) = some (.empty (wayP t.mask (k.hash w) K).j none) := hgo
      rw [hp]
      dsimp only
      refine wpAny_pure (no fun hm => ?_)
      obtain ⟨r, hr, er⟩ := List.mem_map.mp hm
      obtain ⟨j, hj⟩ := List.getElem?_of_mem hr
      obtain ⟨d, d1, d2, d3⟩ := rch j r hj er
      refine hno (d - c) j (by omega) ?_ ((hash j r hj).trans (by rw [er]))
      rw [wayP_add, show c + (d - c) = d by omega]
      exact d3
  )]
  intro _ hNoI
  simpa using (fun (_ : NoI.Sg) => hNoI) [5]
theorem look (R : StR P w s.heap a L es ep t) {x : Addr} {k : NestedKey} (hx : KAt P w s.heap k x) (hu : A.units + 8 < cLine) {Q : SetFound → Shared → Prop} (yes : k ∈ L.map (·.2) → Q (.there none) s)
    (no : ∀ K, k ∉ L.map (·.2) → way t.mask (k.hash w) K ∉ t.place.toList → (∀ c, c < K → way t.mask (k.hash w) c ∈ t.place.toList) → Q (.free (way t.mask (k.hash w) K) false) s) :
    wpAny (model P w) A (setSearch a (.ref x) (k.hash w) true) Q E s := by
  refine NoI.keep (fun _ wNoI => ?_) ?_
  simp only [↓ NoI.wrOf wNoI (by
  clear wNoI
  have hr := R.roo
  obtain ⟨K, b1, b2, b3⟩ := R.tab.first (by rw [List.length_map]; omega) (k.hash w)
  have hbig : 10 * SetTable.turns t.mask < 100000 := by
    unfold SetTable.turns
    rcases R.tab.mok with z | z | z <;> (rw [z]; decide)
  unfold setSearch
  refine look_from R hx hu b1 b2 b3 yes (fun n => no K n b2 b3) 100000 0 none rfl (Nat.zero_le _) (by omega) fun i p hp ek => ?_
  have hi : (L.map fun p => p.2.hash w)[i]? = some (k.hash w) := by rw [List.getElem?_map, hp, ← ek] <;> rfl
  have hil : i < t.place.toList.length := by
    have z1 := (List.getElem?_eq_some_iff.mp hp).1
    have z2 : t.place.size = L.length := by have := R.tab.sz; simpa using this
    rw [Array.length_toList, z2]; exact z1
  obtain ⟨d, hd, e⟩ := R.tab.before b2 hi (List.getElem?_eq_getElem hil)
  exact ⟨d, Nat.zero_le _, hd, by rw [List.getElem?_eq_getElem hil, e]⟩
  )]
  intro _ hNoI
  simpa using (fun (_ : NoI.Sg) => hNoI) [5]
end
end SH

/-! adding to such a set, its table laid anew where it is full -/
namespace SH
open PySem PySem.Spec PyProof.Rows L2
section
variable {P : Program} {w : World} {A : Around} {E : Value → Shared → Prop} {s : Shared} {a : Addr} {L : List (Addr × NestedKey)} {es : Array (Int × Value)} {ep : Nat} {t : SetTable}
def rowK (w : World) (p : Addr × NestedKey) : Int × Value := (p.2.hash w, Value.ref p.1)
theorem pick_range {α : Type} (l : List α) : (List.range l.length).filterMap (fun i => l[i]?) = l := by
  refine NoI.keep (fun _ wNoI => ?_) ?_
  simp only [↓ NoI.wrOf wNoI (by
  clear wNoI
  have key : ∀ n, n ≤ l.length → (List.range n).filterMap (fun i => l[i]?) = l.take n := by
    intro n
    induction n with
    | zero => intro _; rfl
    | succ n ih =>
      intro hn
      rw [List.range_succ, List.filterMap_append, ih (by omega), List.take_succ]
      congr 1
  rw [key _ (Nat.le_refl _), List.take_length]
  )]
  intro _ hNoI
  simpa using (fun (_ : NoI.Sg) => hNoI) [5]
/-- the entries in another order -/
theorem reorder (L : List (Addr × NestedKey)) (es : Array (Int × Value)) (ord : Array Nat) (hr : es.toList = L.map (rowK w)) (hp : ord.toList.Perm (List.range L.length)) :
    ∃ M : List (Addr × NestedKey), (ord.filterMap (es[·]?)).toList = M.map (rowK w) ∧ M.Perm L ∧ (M.map fun p => p.2.hash w) = ord.toList.map fun i => (es.map (·.1)).getD i 0 := by
  refine NoI.keep (fun _ wNoI => ?_) ?_
  simp only [↓ NoI.wrOf wNoI (by
  clear wNoI
  have ent : ∀ i, es[i]? = L[i]?.map (rowK w) := fun i => by
    rw [← Array.getElem?_toList, hr, List.getElem?_map]
  refine ⟨ord.toList.filterMap (fun i => L[i]?), ?_, ?_, ?_⟩
  · rw [Array.toList_filterMap, List.map_filterMap]
    congr 1
    funext i
    exact ent i
  · have z := hp.filterMap (fun i => L[i]?)
    rw [pick_range] at z
    exact z
  · have key : ∀ l : List Nat, (∀ i ∈ l, i < L.length) → (l.filterMap (fun i => L[i]?)).map (fun p => p.2.hash w) = l.map fun i => (es.map (·.1)).getD i 0 := by
      intro l
      induction l with
      | nil => intro _; rfl
      | cons i l ih =>
        intro h
        have hi := h i List.mem_cons_self
        rw [List.filterMap_cons_some (List.getElem?_eq_getElem hi), List.map_cons, List.map_cons, ih fun j hj => h j (List.mem_cons_of_mem _ hj)]
        congr 1
        have e5 : (es.map (·.1))[i]? = some ((L[i]).2.hash w) := by
          rw [Array.getElem?_map, ent i, List.getElem?_eq_getElem hi] <;> rfl
        rw [Array.getD_eq_getD_getElem?, e5] <;> rfl
    exact key _ fun i hi => List.mem_range.mp (hp.mem_iff.mp hi)
  )]
  intro _ hNoI
  simpa using (fun (_ : NoI.Sg) => hNoI) [5]
theorem lay_anew {ob : Obj} (g1 : s.heap.get? a = some ob) (g2 : ob.ExactSet) (g3 : ob.data = .set es ep t) (row : es.toList = L.map (rowK w)) (hsz : t.place.size = es.size) (hdm : t.dummies = #[]) (hfl : es.size ≤ t.mask)
    (dif : (L.map (·.2)).Nodup) (key : ∀ p ∈ L, KAt P w s.heap p.2 p.1) (led : w.params.followText "set-order" = true ∨ t.led = true) (few : L.length < 64) {wanted M : Nat}
    (hw : SetTable.sizeAbove wanted - 1 = M) (hM : MaskOk M) (hw2 : SetTable.sizeAbove wanted ≤ 128) (hn : L.length * 5 < M * 3) {Q : Unit → Shared → Prop}
    (hQ : ∀ h' N es' ep' t', Heap.SameBut a s.heap h' → StR P w h' a N es' ep' t' → N.Perm L → Q () { s with heap := h' }) : wpAny (model P w) A (setRelay a wanted) Q E s := by
  refine NoI.keep (fun _ wNoI => ?_) ?_
  simp only [↓ NoI.wrOf wNoI (by
  clear wNoI
  have hsl : es.size = L.length := by
    have := congrArg List.length row
    simpa using this
  have fit : t.fits es.size = true := by
    unfold SetTable.fits SetTable.fill
    rw [hdm]
    simp only [Bool.and_eq_true, beq_iff_eq, decide_eq_true_eq]
    exact ⟨hsz, by show t.place.size + 0 ≤ t.mask; omega⟩
  obtain ⟨t', ord, e, hp, T, em, el, epl, ed⟩ := relaid_ok t (hs := es.map (·.1)) (wanted := wanted) hw hM (by rw [Array.size_map, hsl]; omega)
  rw [Array.size_map, hsl] at hp
  obtain ⟨N, r1, r2, r3⟩ := reorder (w := w) L es ord row hp
  rw [← r3] at T
  have hs2 : (ord.filterMap (es[·]?)).size = es.size := by
    have z := congrArg List.length r1
    rw [Array.length_toList, List.length_map, r2.length_eq] at z
    rw [z, hsl]
  rw [setRelay_eq]
  refine wpAny_bind (wpAny_setState_of g1 g3 fit ?_)
  dsimp only
  refine wp_if_neg (by rw [sizeLine_eq]; omega) ?_
  try refine wpAny_bind (wpAny_pure ?_)
  rw [e]
  dsimp only
  refine wpAny_bind (wp_if_neg (by rw [hs2]; simp) ?_)
  try refine wpAny_bind (wpAny_pure ?_)
  refine wpAny_pure ?_
  dsimp only
  have sb : Heap.SameBut a s.heap (s.heap.update a (Obj.putSet (ord.filterMap (es[·]?)) t')) := Heap.SameBut.update ..
  refine wpAny_storeSet_of g1 g3 (hQ _ N (ord.filterMap (es[·]?)) (ep + 1) t' sb ⟨⟨_, store_at g1 g3, ⟨g2.1, g2.2.1, g2.2.2⟩, rfl⟩, r1, T, ?_, fun p hpm => (key p (r2.mem_iff.mp hpm)).but g1 g3 sb, by rw [el]; exact led, ?_, by rw [r2.length_eq]; exact few⟩ r2) (by rw [hs2, hsl, sizeLine_eq]; omega)
  · exact (r2.map (·.2)).nodup_iff.mpr dif
  · rw [r2.length_eq, em]; exact hn
  )]
  intro _ hNoI
  simpa using (fun (_ : NoI.Sg) => hNoI) [5]
theorem mid_perm {α : Type} (L : List α) (p : Nat) (x : α) : (L.take p ++ x :: L.drop p).Perm (x :: L) := by
  have z := (List.perm_middle (a := x) (l₁ := L.take p) (l₂ := L.drop p))
  rwa [List.take_append_drop] at z
theorem put_in (R : StR P w s.heap a L es ep t) {x : Addr} {k : NestedKey} (hx : KAt P w s.heap k x) (hu : A.units + 8 < cLine) (hfew : k ∉ L.map (·.2) → L.length + 1 < 64) {Q : Bool → Shared → Prop}
    (hQ : ∀ b h' N es' ep' t', Heap.SameBut a s.heap h' → StR P w h' a N es' ep' t' → (k ∈ L.map (·.2) → N = L) → (k ∉ L.map (·.2) → N.Perm ((x, k) :: L)) → Q b { s with heap := h' }) :
    wpAny (model P w) A (setAddHashed a (.ref x) (k.hash w)) Q E s := by
  refine NoI.keep (fun _ wNoI => ?_) ?_
  simp only [↓ NoI.wrOf wNoI (by
  clear wNoI
  obtain ⟨ob, g1, g2, g3⟩ := R.obj
  have hsl := R.len
  have hroom := R.roo
  unfold setAddHashed
  refine wpAny_holding ?_
  rw [show (100000 : Nat) = 99999 + 1 from rfl, setAddHashedIn_succ]
  refine wpAny_bind (wpAny_setState_of g1 g3 R.fit ?_)
  dsimp only
  refine wp_if_neg (by simp [byScan, Value.scannable]) ?_
  try refine wpAny_bind (wpAny_pure ?_)
  refine wpAny_bind (look R hx hu (fun hm => ?_) fun K hm n1 n2 => ?_)
  · dsimp only
    exact wpAny_pure (hQ false s.heap L es ep t (Heap.SameBut.refl a s.heap) R (fun _ => rfl) fun z => absurd hm z)
  dsimp only
  refine wpAny_bind (wpAny_setState_of g1 g3 R.fit ?_)
  dsimp only
  have hfew := hfew hm
  obtain ⟨q1, q2, q3, q4, q5, q6, q7, q8, q9⟩ := R.tab.put n1 n2
  generalize hpt : t.put (way t.mask (k.hash w) K) = pt at q1 q3 q4 q5 q6 q7 q8 q9 ⊢
  obtain ⟨t1, pl⟩ := pt
  dsimp only at q1 q3 q4 q5 q6 q7 q8 q9 ⊢
  subst q1
  generalize hpp : SetTable.below t.place (way t.mask (k.hash w) K) = pl at q2 q3 ⊢
  have pm := mid_perm L pl (x, k)
  have hlen : (L.take pl ++ (x, k) :: L.drop pl).length = L.length + 1 := pm.length_eq
  have hhs : (L.take pl ++ (x, k) :: L.drop pl).map (fun p => p.2.hash w) = (L.map fun p => p.2.hash w).take pl ++ k.hash w :: (L.map fun p => p.2.hash w).drop pl := by
    rw [List.map_append, List.map_cons, List.map_take, List.map_drop]
  rw [← hhs] at q3
  have hin : (SetTable.insertAt es pl (k.hash w, Value.ref x)).toList = (L.take pl ++ (x, k) :: L.drop pl).map (rowK w) := by
    rw [SetTable.toList_insertAt, R.row, List.map_append, List.map_cons, List.map_take, List.map_drop] <;> rfl
  have nd1 : ((L.take pl ++ (x, k) :: L.drop pl).map (·.2)).Nodup := (pm.map (·.2)).nodup_iff.mpr (List.nodup_cons.mpr ⟨hm, R.dif⟩)
  have hes : (SetTable.insertAt es pl (k.hash w, Value.ref x)).size = L.length + 1 := by
    have z := congrArg List.length hin
    rw [Array.length_toList, List.length_map, hlen] at z
    exact z
  generalize SetTable.insertAt es pl (k.hash w, Value.ref x) = es1 at hin hes ⊢
  generalize L.take pl ++ (x, k) :: L.drop pl = L1 at pm hlen q3 nd1 hin
  -- whatever is said of its hash
  have go : ∀ t2 : SetTable, TabOk t2 (L1.map fun p => p.2.hash w) → t2.mask = t.mask → t2.led = t.led → t2.fill = L.length + 1 → t2.tooFull = decide ((L.length + 1) * 5 ≥ t.mask * 3) → t2.dummies = #[] → t2.place.size = es1.size →
      wpAny (model P w) A (storeSet a es1 t2 >>= fun _ => if (!false && t2.tooFull) = true then setRelay a (SetTable.grown (es.size + 1)) >>= fun _ => pure true else pure true) Q E s := by
    intro t2 T2 e1 e2 e3 e4 e5 e6
    have sb : Heap.SameBut a s.heap (s.heap.update a (Obj.putSet es1 t2)) := Heap.SameBut.update ..
    have ho1 := store_at (es' := es1) (t' := t2) g1 g3
    refine wpAny_bind (wpAny_storeSet_of g1 g3 ?_ (by rw [hes, sizeLine_eq]; omega))
    generalize s.heap.update a (Obj.putSet es1 t2) = h1 at sb ho1 ⊢
    have key1 : ∀ p ∈ L1, KAt P w h1 p.2 p.1 := fun p hp => by
      rcases List.mem_cons.mp (pm.mem_iff.mp hp) with rfl | hp
      · exact hx.but g1 g3 sb
      · exact (R.key p hp).but g1 g3 sb
    have led1 : w.params.followText "set-order" = true ∨ t2.led = true := by rw [e2]; exact R.led
    by_cases hf : t2.tooFull = true
    · have hfull : (L.length + 1) * 5 ≥ t.mask * 3 := by rw [e4] at hf; exact of_decide_eq_true hf
      have two : (t.mask = 7 ∧ L.length = 4) ∨ (t.mask = 31 ∧ L.length = 18) := by
        rcases R.tab.mok with z | z | z <;> rw [z] at hfull hroom
        · exact .inl ⟨z, by omega⟩
        · exact .inr ⟨z, by omega⟩
        · omega
      have lay : ∀ M, SetTable.sizeAbove (SetTable.grown (L.length + 1)) - 1 = M → MaskOk M → SetTable.sizeAbove (SetTable.grown (L.length + 1)) ≤ 128 → (L.length + 1) * 5 < M * 3 →
          wpAny (model P w) A (setRelay a (SetTable.grown (L.length + 1))) (fun _ s' => wpAny (model P w) A (pure true) Q E s') E { s with heap := h1 } := fun M c1 c2 c3 c4 => by
        refine lay_anew (s := { s with heap := h1 }) ho1 ⟨g2.1, g2.2.1, g2.2.2⟩ rfl hin e6 e5 (by rw [hes, e1]; rcases two with ⟨z, z2⟩ | ⟨z, z2⟩ <;> omega) nd1 key1 led1 (by rw [hlen]; exact hfew) c1 c2 c3 (by rw [hlen]; exact c4) ?_
        intro h2 N es2 ep2 t3 sb2 R2 pm2
        exact wpAny_pure (hQ true h2 N es2 ep2 t3 (sb.trans sb2) R2 (fun z => absurd z hm) fun _ => pm2.trans pm)
      rw [hsl]
      refine wp_if_pos (by simp [hf]) (wpAny_bind ?_)
      rcases two with ⟨_, z⟩ | ⟨_, z⟩
      · exact lay 31 (by rw [z, size_20]) (.inr (.inl rfl)) (by rw [z, size_20]; decide) (by omega)
      · exact lay 127 (by rw [z, size_76]) (.inr (.inr rfl)) (by rw [z, size_76]; decide) (by omega)
    · have hnf : ¬ (L.length + 1) * 5 ≥ t.mask * 3 := fun z => hf (by rw [e4]; exact decide_eq_true z)
      refine wp_if_neg (by simp [hf]) ?_
      exact wpAny_pure (hQ true h1 L1 es1 (ep + 1) t2 sb ⟨⟨_, ho1, ⟨g2.1, g2.2.1, g2.2.2⟩, rfl⟩, hin, T2, nd1, key1, led1, by rw [hlen, e1]; omega, by rw [hlen]; exact hfew⟩ (fun z => absurd z hm) fun _ => pm)
  have hfill : t1.fill = L.length + 1 := by rw [q9, List.length_map]
  have hfull : t1.tooFull = decide ((L.length + 1) * 5 ≥ t.mask * 3) := by
    unfold SetTable.tooFull
    rw [hfill, q4]
  have hsz : t1.place.size = es1.size := by rw [q3.sz, List.length_map, hlen, hes]
  by_cases hp1 : t1.plain = true
  · refine wp_if_pos hp1 (wpAny_bind (byVal_key k _ 8 s _ hx.1 hx.2 fun r => ?_))
    cases r
    · exact go { t1 with plain := false } ⟨q3.ris, q3.dm, q3.sz, q3.mok, q3.bd, q3.reach⟩ q4 q5 hfill hfull q3.dm hsz
    · exact go t1 q3 q4 q5 hfill hfull q3.dm hsz
  · refine wp_if_neg hp1 (wpAny_bind (wpAny_pure ?_))
    exact go t1 q3 q4 q5 hfill hfull q3.dm hsz
  )]
  intro _ hNoI
  simpa using (fun (_ : NoI.Sg) => hNoI) [5]
end
end SH

/-! set(l) of a list or tuple of such keys -/
namespace SH
open PySem PySem.Spec PyProof.Rows L2
theorem nodup_le {α : Type} [DecidableEq α] : ∀ (l D : List α), l.Nodup → (∀ x ∈ l, x ∈ D) → l.length ≤ D.length
  | [], _, _, _ => Nat.zero_le _
  | x :: l, D, hn, hs => by
    obtain ⟨h1, h2⟩ := List.nodup_cons.mp hn
    have hx := hs x List.mem_cons_self
    have z := nodup_le l (D.erase x) h2 fun y hy => (List.mem_erase_of_ne fun e => h1 (by rw [← e]; exact hy)).mpr (hs y (List.mem_cons_of_mem _ hy))
    have := List.length_erase_of_mem hx
    have := List.length_pos_of_mem hx
    rw [List.length_cons]
    omega
abbrev setO (w : World) : Obj := { cls := .type "set", dict := none, data := .set #[] 0 (.fresh 0 0 (!w.params.followText "set-order")) }
/-- what has come in from the first i items -/
structure InK (ks : List (Addr × NestedKey)) (i : Nat) (L : List (Addr × NestedKey)) : Prop where
  from_ : ∀ p ∈ L, p ∈ ks.take i
  all_ : ∀ p ∈ ks.take i, p.2 ∈ L.map (·.2)
theorem InK.next {ks L N : List (Addr × NestedKey)} {i : Nat} {x : Addr × NestedKey} (g : InK ks i L) (h : ks[i]? = some x) (same : x.2 ∈ L.map (·.2) → N = L) (more : x.2 ∉ L.map (·.2) → N.Perm (x :: L)) : InK ks (i + 1) N := by
  refine NoI.keep (fun _ wNoI => ?_) ?_
  simp only [↓ NoI.wrOf wNoI (by
  clear wNoI
  have tk : ks.take (i + 1) = ks.take i ++ [x] := by rw [List.take_succ, h] <;> rfl
  by_cases c : x.2 ∈ L.map (·.2)
  · rw [same c]
    refine ⟨fun p hp => by rw [tk]; exact List.mem_append_left _ (g.from_ p hp), fun p hp => ?_⟩
    rw [tk] at hp
    rcases List.mem_append.mp hp with z | z
    · exact g.all_ p z
    · rw [List.mem_singleton.mp z]; exact c
  · have pm := more c
    refine ⟨fun p hp => ?_, fun p hp => ?_⟩
    · rw [tk]
      rcases List.mem_cons.mp (pm.mem_iff.mp hp) with z | z
      · rw [z]; exact List.mem_append_right _ (List.mem_singleton.mpr rfl)
      · exact List.mem_append_left _ (g.from_ p z)
    · refine (pm.map (·.2)).mem_iff.mpr ?_
      rw [tk] at hp
      rcases List.mem_append.mp hp with z | z
      · exact List.mem_cons_of_mem _ (g.all_ p z)
      · rw [List.mem_singleton.mp z]; exact List.mem_cons_self
  )]
  intro _ hNoI
  simpa using (fun (_ : NoI.Sg) => hNoI) [5]
section
variable {P : Program} {w : World} {A : Around} {E : Value → Shared → Prop} {s : Shared}
theorem StR.keep {h h' : Heap} {a : Addr} {L : List (Addr × NestedKey)} {es : Array (Int × Value)} {ep : Nat} {t : SetTable} (R : StR P w h a L es ep t) (ha : ∀ ob, h.get? a = some ob → h'.get? a = some ob) (hk : ∀ p ∈ L, KAt P w h' p.2 p.1) : StR P w h' a L es ep t := by
  obtain ⟨ob, g, r⟩ := R.obj
  exact ⟨⟨ob, ha ob g, r⟩, R.row, R.tab, R.dif, hk, R.led, R.roo, R.few⟩
theorem stR_new {h : Heap} {a : Addr} (ho : h.get? a = some (setO w)) : StR P w h a [] #[] 0 (.fresh 0 0 (!w.params.followText "set-order")) := by
  refine NoI.keep (fun _ wNoI => ?_) ?_
  simp only [↓ NoI.wrOf wNoI (by
  clear wNoI
  refine ⟨⟨_, ho, ⟨rfl, rfl, rfl⟩, rfl⟩, rfl, ⟨List.Pairwise.nil, rfl, rfl, .inl rfl, fun x z => (by cases z), fun i h j z => (by simp at z)⟩, List.nodup_nil, fun p z => (by cases z), ?_, ?_, by decide⟩
  · show _ ∨ (!w.params.followText "set-order") = true
    cases w.params.followText "set-order"
    · exact .inr rfl
    · exact .inl rfl
  · show 0 * 5 < 7 * 3
    decide
  )]
  intro _ hNoI
  simpa using (fun (_ : NoI.Sg) => hNoI) [5]
theorem fill_loop {I : Addr} {fp wr : List Addr} {G : Array GenState → Array GenState → Prop} {n : Nat} {Pv : Nat → Value → Prop} {St : Nat → Shared → Prop} {R : Result → Shared → Prop}
    (W : WalksS P w A.in1 I fp wr G n Pv St) (S : Addr) (nf : S ∉ fp) (ks : List (Addr × NestedKey)) (hn : n = ks.length) (D : List NestedKey) (hD : D.length < 64) (hs : ∀ p ∈ ks, p.2 ∈ D)
    (hval : ∀ i v, Pv i v → ∃ p, ks[i]? = some p ∧ v = .ref p.1) (h0 : Heap) (hk : ∀ p ∈ ks, KAt P w h0 p.2 p.1) (hS0 : h0.get? S = none) (hw0 : ∀ b ∈ wr, h0.get? b = none) (hu : A.in1.units + 8 < cLine) :
    ∀ (m i : Nat) (s : Shared), i + m = n → St i s → (∀ b ob, h0.get? b = some ob → s.heap.get? b = some ob) → (∃ L es ep t, StR P w s.heap S L es ep t ∧ InK ks i L) →
      (∀ s' L es ep t, Moved (S :: wr) G s s' → StR P w s'.heap S L es ep t → InK ks n L → (∀ b ob, h0.get? b = some ob → s'.heap.get? b = some ob) → R (.ok (.ret .none)) s') →
      codeAny (model P w) A (.builtin "set.update.loop" ⟨[.ref S, .ref I], []⟩) R s := by
  refine NoI.keep (fun _ wNoI => ?_) ?_
  simp only [↓ NoI.wrOf wNoI (by
  clear wNoI
  have nw : S ∉ wr := fun z => nf (W.sub _ z)
  have up : ∀ b ∈ wr, b ∈ S :: wr := fun b z => List.mem_cons_of_mem _ z
  have move : ∀ {s s' : Shared}, Moved wr G s s' → (∀ b ob, h0.get? b = some ob → s.heap.get? b = some ob) → ∀ b ob, h0.get? b = some ob → s'.heap.get? b = some ob := fun mv kp b ob e =>
    mv.heap b ob (fun z => by rw [hw0 b z] at e; cases e) (kp b ob e)
  intro m
  induction m with
  | zero =>
    intro i s him hst kp ⟨L, es, ep, t, hS, g⟩ hR
    obtain rfl : i = n := him
    refine codeAny_builtin F.entry_set_update_loop ?_
    rw [Around.under_plainId F.plain_set_update_loop _]
    show wpAny _ A.in1 (pyNext (.ref I) >>= _) _ _ s
    refine wpAny_bind (W.done s _ _ hst fun s' mv => ?_)
    show wpAny _ A.in1 (ret Value.none) _ _ s'
    have kp' := move mv kp
    exact wpAny_pure (hR s' L es ep t (mv.mono up) (hS.keep (fun ob e => mv.heap S ob nw e) fun p hp => (hk p (List.mem_of_mem_take (g.from_ p hp))).keep kp') g kp')
  | succ m ih =>
    intro i s him hst kp ⟨L, es, ep, t, hS, g⟩ hR
    refine codeAny_builtin F.entry_set_update_loop ?_
    rw [Around.under_plainId F.plain_set_update_loop _]
    show wpAny _ A.in1 (pyNext (.ref I) >>= _) _ _ s
    refine wpAny_bind (W.item i s _ _ (by omega) hst fun v s' hP hst' mv => ?_)
    obtain ⟨p, hp, rfl⟩ := hval i v hP
    have kp' := move mv kp
    have hS' : StR P w s'.heap S L es ep t := hS.keep (fun ob e => mv.heap S ob nw e) fun q hq => (hk q (List.mem_of_mem_take (g.from_ q hq))).keep kp'
    have hx : KAt P w s'.heap p.2 p.1 := (hk p (List.mem_of_getElem? hp)).keep kp'
    show wpAny _ A.in1 (holding [Value.ref p.1] (setAdd S (.ref p.1)) >>= _) _ _ s'
    refine wpAny_bind (wpAny_holding ?_)
    unfold setAdd
    refine wpAny_holding (wpAny_bind ((nestedKind P w).pyHash hu hx ?_))
    refine put_in (s := { s' with toks := s'.toks + (nestedKind P w).draws p.2 }) hS' hx hu (fun c => ?_) fun b h' N es' ep' t' sb hS2 c1 c2 => ?_
    · have := nodup_le (p.2 :: L.map (·.2)) D (List.nodup_cons.mpr ⟨c, hS'.dif⟩) fun k z => by
        rcases List.mem_cons.mp z with rfl | z
        · exact hs p (List.mem_of_getElem? hp)
        · obtain ⟨q, hq, rfl⟩ := List.mem_map.mp z
          exact hs q (List.mem_of_mem_take (g.from_ q hq))
      simp at this
      omega
    have g' := g.next hp c1 c2
    have kp2 : ∀ b ob, h0.get? b = some ob → h'.get? b = some ob := fun b ob e => (sb.2 b (fun z => by rw [z, hS0] at e; cases e)).trans (kp' b ob e)
    refine wpAny_pure ⟨plainId_quiet F.plain_set_update_loop _, ih (i + 1) _ (by omega) (W.frame _ s' _ _ hst' (Nat.le_add_right _ _) fun b hb ob e => ?_) kp2 ⟨N, es', ep', t', hS2, g'⟩ fun s'' L2 es2 ep2 t2 mv2 hS3 g2 kp3 => ?_⟩
    · rw [sb.2 b fun z : b = S => nf (by rw [← z]; exact hb)]; exact e
    · refine hR s'' L2 es2 ep2 t2 (Moved.trans W.gtrans ((mv.mono up).then_heap (Nat.le_add_right _ _) fun b ob hb e => ?_) mv2) hS3 g2 kp3
      rw [sb.2 b fun z : b = S => hb (by rw [z]; exact List.mem_cons_self)]; exact e
  )]
  intro _ hNoI
  simpa using (fun (_ : NoI.Sg) => hNoI) [5]
end
end SH

/-! the call set(l) -/
namespace SH
open PySem PySem.Spec PyProof.Rows L2
section
variable {P : Program} {w : World} {A : Around} {E : Value → Shared → Prop} {s : Shared}
abbrev withSet (w : World) (s : Shared) : Shared := { s with heap := s.heap.push (setO w) }
/-- what set() has made of them -/
def SetMade (P : Program) (w : World) (s : Shared) (ks : List (Addr × NestedKey)) (s2 : Shared) : Prop :=
  ∃ h' tk L es ep t, s2 = { s with heap := h', toks := tk } ∧ StR P w h' s.heap.objs.size L es ep t ∧ InK ks ks.length L ∧ ∀ b ob, s.heap.get? b = some ob → h'.get? b = some ob
set_option maxHeartbeats 0 in
theorem call_setK {l : Addr} {items : Array Value} (ks : List (Addr × NestedKey)) {Q : Value → Shared → Prop} (hh : A.handled = none) (hl : s.heap.IsList l items ∨ s.heap.IsTuple l items) (hit : items.toList = ks.map fun p => Value.ref p.1)
    (hk : ∀ p ∈ ks, KAt P w s.heap p.2 p.1) (D : List NestedKey) (hD : D.length < 64) (hs : ∀ p ∈ ks, p.2 ∈ D) (hu : A.units + 12 < cLine) (h : ∀ s2, SetMade P w s ks s2 → Q (.ref s.heap.objs.size) s2) :
    wpAny (model P w) A (call (.type "set") [.ref l]) Q E s := by
  refine NoI.keep (fun _ wNoI => ?_) ?_
  simp only [↓ NoI.wrOf wNoI (by
  clear wNoI
  have hisz : items.size = ks.length := by
    have z := congrArg List.length hit
    simpa using z
  obtain ⟨c0, tl, mro0⟩ := F.called_set.mro
  have made0 := F.called_set.made
  have sub0 := F.called_set.sub
  refine wpAny_call (codeAny_of_tree ?_)
  show wpAny _ _ (callAny (.type "set") _) _ _ _
  refine wpAny_pure ⟨Code.quiet_builtin _ (by decide +kernel), codeAny_builtin F.entry_type_call ?_⟩
  rw [Around.under_plain (weight_type_call_type "set" [.ref l] []) rfl]
  have nt := F.called_set.notType
  have cc := F.called_set.canCreate
  have tc := F.typeCall_set_1 (.ref l)
  repeat (any_goals (first | assumption | wp_step))

  refine codeAny_mono (code_set_led1 (.ref l) (E := E) (Q₁ := fun v s1 => v = .ref s.heap.objs.size ∧ s1 = withSet w s) ⟨rfl, rfl⟩) fun r s1 hr => ?_
  cases r with
  | error e => exact hr
  | ok fl =>
    cases fl with
    | ret v =>
      obtain ⟨rfl, rfl⟩ := hr
      have hS : (s.heap.push (setO w)).get? s.heap.objs.size = some (setO w) := Heap.get?_push_size _ rfl
      have hT : Shared.TypeIs (withSet w s) (.ref s.heap.objs.size) "set" := ⟨_, hS, rfl⟩
      have li := F.called_set.init.lookup
      have bi := F.called_set.init.bind (.ref s.heap.objs.size)
      repeat (any_goals (first | assumption | wp_step))

      refine codeAny_mono (codeAny_call_builtin (R := wants (fun r s2 => r = .none ∧ SetMade P w s ks s2) E) F.called_set.init.plain F.entry_set_init (check_set_init_1 hT ?_)) fun r2 s2 hr2 => ?_
      · have fresh : ∀ b, s.heap.objs.size ≤ b → s.heap.get? b = none := fun b hb => by
          cases q : s.heap.get? b with
          | none => rfl
          | some ob => exact absurd (Nat.lt_of_lt_of_le (Heap.lt_size q) hb) (Nat.lt_irrefl _)
        have h3 : A.in1.in1.in1.handled = none := by simp [hh]
        have psz : (s.heap.push (setO w)).objs.size = s.heap.objs.size + 1 := Heap.size_push ..
        have hval : ∀ (i : Nat) (v : Value), items[i]? = some v → ∃ p, ks[i]? = some p ∧ v = .ref p.1 := fun i v hv => by
          have z := congrArg (·[i]?) hit
          simp only [Array.getElem?_toList, List.getElem?_map, hv] at z
          cases q : ks[i]? with
          | none => rw [q] at z; cases z
          | some p => rw [q] at z; exact ⟨p, rfl, Option.some.inj z⟩
        have hlS : l < s.heap.objs.size := by
          rcases hl with ⟨ol, hol, _⟩ | ⟨ol, hol, _⟩ <;> exact Heap.lt_size hol
        have ne1 : l ≠ (s.heap.push (setO w)).objs.size := by rw [psz]; exact Nat.ne_of_lt (Nat.lt_succ_of_lt hlS)
        have nf : s.heap.objs.size ∉ [(s.heap.push (setO w)).objs.size, l] := by
          rw [psz]
          intro z
          rcases List.mem_cons.mp z with z | z
          · exact absurd z (Nat.ne_of_lt (Nat.lt_succ_self _))
          · exact absurd (List.mem_singleton.mp z) (Nat.ne_of_gt hlS)
        have fin : ∀ (s' : Shared) (L : List (Addr × NestedKey)) (es : Array (Int × Value)) (ep : Nat) (t : SetTable), s'.gens = s.gens → s'.drawn = s.drawn → s'.os = s.os → StR P w s'.heap s.heap.objs.size L es ep t → InK ks items.size L → (∀ b ob, s.heap.get? b = some ob → s'.heap.get? b = some ob) → SetMade P w s ks s' := fun s' L es ep t e1 e2 e3 hS' g kp => by
          obtain ⟨h', g2, d', tk', os'⟩ := s'
          dsimp only at e1 e2 e3
          subst e1 e2 e3
          rw [hisz] at g
          exact ⟨h', tk', L, es, ep, t, rfl, hS', g, kp⟩
        rcases hl with hl | hl
        · obtain ⟨ol, hol, hcl, nl, hdl⟩ := hl
          obtain ⟨ocls, odict, odata, oslots⟩ := ol
          simp only at hcl hdl
          subst hcl; subst hdl
          have hol' : (s.heap.push (setO w)).get? l = some { cls := .type "list", dict := odict, data := .seq items nl, slots := oslots } := Heap.get?_push_of_some _ hol
          have u1 := F.sub_list_set
          have u2 := F.sub_list_frozenset
          have u3 : (Value.type "list" == Value.type "dict") = false := by decide
          have il : (s.heap.push (setO w)).IsList l items := ⟨_, hol', rfl, nl, rfl⟩
          unfold Builtin.«set.__init__» noKeywords Builtin.Frozenset.updateFrom
          generalize hPI : pyIter = PI
          wp_walk
          subst hPI
          refine wpAny_pyIter_list il (wpAny_bind (wpAny_runValue ?_))
          refine fill_loop ((Walks.list h3 _ l ne1 items).toS) s.heap.objs.size nf ks hisz D hD hs hval s.heap hk (fresh _ (Nat.le_refl _)) (fun b hb => fresh b (by rw [List.mem_singleton.mp hb, psz]; exact Nat.le_succ _)) (show A.units + 3 + 8 < cLine by omega) items.size 0 _ (Nat.zero_add _)
            ⟨⟨_, Heap.get?_push_size _ rfl, rfl, rfl⟩, il.push _⟩ (fun b ob e => Heap.get?_push_of_some _ (Heap.get?_push_of_some _ e)) ?_ ?_
          · exact ⟨[], #[], 0, _, stR_new (Heap.get?_push_of_some _ hS), ⟨fun p z => (by cases z), fun p z => (by simp at z)⟩⟩
          · intro s' L es ep t mv hS' g kp
            have sm := fin s' L es ep t mv.gens mv.drawn mv.os hS' g kp
            show wpAny _ _ _ _ _ _
            refine wpAny_pure ?_
            show wpAny _ _ (ret Value.none) _ _ _
            exact wpAny_pure ⟨rfl, sm⟩
        · obtain ⟨ol, hol, hcl, nl, hdl⟩ := hl
          obtain ⟨ocls, odict, odata, oslots⟩ := ol
          simp only at hcl hdl
          subst hcl; subst hdl
          have hol' : (s.heap.push (setO w)).get? l = some { cls := .type "tuple", dict := odict, data := .seq items nl, slots := oslots } := Heap.get?_push_of_some _ hol
          have u1 := F.sub_tuple_set
          have u2 := F.sub_tuple_frozenset
          have u3 : (Value.type "tuple" == Value.type "dict") = false := by decide
          have il : (s.heap.push (setO w)).IsTuple l items := ⟨_, hol', rfl, nl, rfl⟩
          unfold Builtin.«set.__init__» noKeywords Builtin.Frozenset.updateFrom
          generalize hPI : pyIter = PI
          wp_walk
          subst hPI
          refine wpAny_pyIter_tuple il (wpAny_bind (wpAny_runValue ?_))
          refine fill_loop ((Walks.tuple h3 _ l ne1 items).toS) s.heap.objs.size nf ks hisz D hD hs hval s.heap hk (fresh _ (Nat.le_refl _)) (fun b hb => fresh b (by rw [List.mem_singleton.mp hb, psz]; exact Nat.le_succ _)) (show A.units + 3 + 8 < cLine by omega) items.size 0 _ (Nat.zero_add _)
            ⟨⟨_, Heap.get?_push_size _ rfl, rfl, rfl⟩, il.push _⟩ (fun b ob e => Heap.get?_push_of_some _ (Heap.get?_push_of_some _ e)) ?_ ?_
          · exact ⟨[], #[], 0, _, stR_new (Heap.get?_push_of_some _ hS), ⟨fun p z => (by cases z), fun p z => (by simp at z)⟩⟩
          · intro s' L es ep t mv hS' g kp
            have sm := fin s' L es ep t mv.gens mv.drawn mv.os hS' g kp
            show wpAny _ _ _ _ _ _
            refine wpAny_pure ?_
            show wpAny _ _ (ret Value.none) _ _ _
            exact wpAny_pure ⟨rfl, sm⟩
      · cases r2 with
        | error e => exact hr2
        | ok fl2 =>
          cases fl2 with
          | ret r =>
            obtain ⟨rfl, sm⟩ := hr2
            repeat (any_goals (first | assumption | wp_step))
            exact h _ sm
          | _ => exact hr2.elim
    | _ => exact hr.elim
  )]
  intro _ hNoI
  simpa using (fun (_ : NoI.Sg) => hNoI) [5]
end
end SH

/-! len(set(l)) and sorted(set(l)) of such keys -/
namespace SH
open PySem PySem.Spec PyProof.Rows L2
section
variable [WW] {X : Cx} {pins : List (Addr × Obj)} {σ : L2.St} {H : Hp} {s : Shared}
mutual
theorem nk_reads (I : L2.Inv X pins σ H s) : ∀ (k : NestedKey) (v : V) (u : Value), DV X.K H v k.data → RelV v u → Reads s.heap u k.data []
  | .none, _, _, h, r => by
    cases h
    cases r
    exact .none
  | .num i, _, _, h, r => by
    cases h
    obtain ⟨t, rfl⟩ := r
    exact .int i t
  | .text x, _, _, h, r => by
    cases h
    obtain ⟨t, rfl⟩ := r
    exact .str x t
  | .tup ks, _, _, h, r => by
    cases h with
    | tup h1 h2 =>
      cases r
      obtain ⟨its, rv, ⟨o, e1, e2, n, e3⟩, _⟩ := I.tuple (h1.sq (K := X.K))
      exact .tuple e1 e2 e3 (by simpa using nks_reads I ks _ _ h2 rv)
theorem nks_reads (I : L2.Inv X pins σ H s) : ∀ (ks : List NestedKey) (vs : List V) (us : List Value), DVs X.K H vs (NestedKey.datas ks) → Vals vs us → ReadsAll s.heap us (NestedKey.datas ks) []
  | [], _, _, h, r => by
    cases h
    cases r
    exact .nil
  | k :: ks, _, _, h, r => by
    cases h with
    | cons h1 h2 =>
      cases r with
      | cons r1 r2 => exact .cons (as := []) (bs := []) (nk_reads I k _ _ h1 r1) (nks_reads I ks _ _ h2 r2)
end
end
abbrev AK := Addr × NestedKey
theorem vals_refs : ∀ {ps : List AK} {us : List Value}, Vals (ps.map fun p => V.ref p.1) us → us = ps.map fun p => Value.ref p.1
  | [], _, .nil => rfl
  | p :: ps, _, .cons r t => by
    cases r
    rw [vals_refs t]
    rfl
theorem refs_vals : ∀ ps : List AK, Vals (ps.map fun p => V.ref p.1) (ps.map fun p => Value.ref p.1)
  | [] => .nil
  | p :: ps => .cons rfl (refs_vals ps)
/-- a list or tuple of keys -/
def KeysAt [WW] (K : PySem.W.Frag) (H : Hp) (x : V) (ps : List AK) : Prop :=
  ∃ l, x = .ref l ∧ (SqL K H l (ps.map fun p => V.ref p.1) ∨ SqT K H l (ps.map fun p => V.ref p.1)) ∧ ∀ p ∈ ps, DV K H (.ref p.1) p.2.data ∧ p.2.depth ≤ 8
section
variable {X : Cx} {pins : List (Addr × Obj)} {σ : L2.St} {H : Hp} {s : Shared}
theorem keys_in {l : Addr} {ps : List AK} (I : L2.Inv X pins σ H s) (h : @KeysAt ⟨X.w⟩ X.K H (.ref l) ps) :
    ∃ items : Array Value, (s.heap.IsList l items ∨ s.heap.IsTuple l items) ∧ items.toList = (ps.map fun p => Value.ref p.1) ∧ (∀ p ∈ ps, KAt X.prog X.w s.heap p.2 p.1) ∧ ∀ p ∈ ps, Reads s.heap (.ref p.1) p.2.data [] := by
  refine NoI.keep (fun _ wNoI => ?_) ?_
  simp only [↓ NoI.wrOf wNoI (by
  clear wNoI
  obtain ⟨l', e, hq, hk⟩ := h
  cases e
  refine (?_ : ∃ items : Array Value, (s.heap.IsList l items ∨ s.heap.IsTuple l items) ∧ items.toList = (ps.map fun p => Value.ref p.1)).elim fun items z => ⟨items, z.1, z.2, fun p hp => ⟨@nk_is ⟨X.w⟩ X pins σ H s I p.2 (.ref p.1) _ (hk p hp).1 rfl, (hk p hp).2⟩, fun p hp => @nk_reads ⟨X.w⟩ X pins σ H s I p.2 (.ref p.1) _ (hk p hp).1 rfl⟩
  rcases hq with hq | hq
  · obtain ⟨its, r, pl, _⟩ := I.list hq
    exact ⟨its.toArray, .inl pl.isList, by rw [← vals_refs r]⟩
  · obtain ⟨its, r, pl, _⟩ := I.tuple hq
    exact ⟨its.toArray, .inr pl, by rw [← vals_refs r]⟩
  )]
  intro _ hNoI
  simpa using (fun (_ : NoI.Sg) => hNoI) [5]
end
/-! the rules -/
section
variable [WW] {K : PySem.W.Frag} {Zc : Addr → Prop} {s : S} {x y : SV} {Φ : SV → S → Prop}
theorem keys_of {H : Hp} : ∀ {vs : List V} {ks : List TK}, DVs K H vs (ks.map kx) → ∃ ps : List AK, vs = (ps.map fun p => V.ref p.1) ∧ ps.map (·.2) = ks.map NestedKey.tup ∧ ∀ p ∈ ps, DV K H (.ref p.1) p.2.data
  | _, [], h => by
    cases h
    exact ⟨[], rfl, rfl, fun p z => absurd z List.not_mem_nil⟩
  | _, k :: ks, h => by
    cases h with
    | cons h1 h2 =>
      obtain ⟨ps, rfl, e, hd⟩ := keys_of h2
      have isR : ∀ v, DV K H v (kx k) → ∃ b, v = V.ref b := fun v z => by
        have z : DV K H v (.tuple (NestedKey.datas k)) := z
        cases z
        exact ⟨_, rfl⟩
      obtain ⟨b, rfl⟩ := isR _ h1
      refine ⟨(b, .tup k) :: ps, rfl, by rw [List.map_cons, e]; rfl, fun p hp => ?_⟩
      rcases List.mem_cons.mp hp with rfl | hp
      · exact h1
      · exact hd p hp
theorem keysAt_of {H H1 : Hp} {v : V} {d : D} {ks : List TK} (r : DV K H v d) (le : ∀ {v : V} {d : D}, DV K H v d → DV K H1 v d) (hs : seqD d = some (ks.map kx)) (hz : ∀ k ∈ ks, (NestedKey.tup k).depth ≤ 8)
    (atL : ∀ {a vs}, H a = some (.lst vs) → SqL K H1 a vs) (atT : ∀ {a vs}, SqT K H a vs → SqT K H1 a vs) : ∃ ps, KeysAt K H1 v ps ∧ ps.map (·.2) = ks.map NestedKey.tup ∧ ∀ p ∈ ps, DV K H (.ref p.1) p.2.data := by
  refine NoI.keep (fun _ wNoI => ?_) ?_
  simp only [↓ NoI.wrOf wNoI (by
  clear wNoI
  have dep : ∀ {ps : List AK}, ps.map (·.2) = ks.map NestedKey.tup → ∀ p ∈ ps, p.2.depth ≤ 8 := fun e p hp => by
    have : p.2 ∈ ks.map NestedKey.tup := by rw [← e]; exact List.mem_map_of_mem hp
    obtain ⟨k, hk, e2⟩ := List.mem_map.mp this
    rw [← e2]
    exact hz k hk
  cases d with
  | list ds =>
    cases hs
    obtain ⟨a, vs, rfl, h2, h3⟩ := lst_of r
    obtain ⟨ps, rfl, e, hd⟩ := keys_of h3
    exact ⟨ps, ⟨a, rfl, .inl (atL h2), fun p hp => ⟨le (hd p hp), dep e p hp⟩⟩, e, hd⟩
  | tuple ds =>
    cases hs
    obtain ⟨a, vs, rfl, h2, h3⟩ := tup_of r
    obtain ⟨ps, rfl, e, hd⟩ := keys_of h3
    exact ⟨ps, ⟨a, rfl, .inr (atT h2), fun p hp => ⟨le (hd p hp), dep e p hp⟩⟩, e, hd⟩
  | none => cases hs
  | bool _ => cases hs
  | int _ => cases hs
  | str _ => cases hs
  | dict _ => cases hs
  )]
  intro _ hNoI
  simpa using (fun (_ : NoI.Sg) => hNoI) [5]
end
end SH

/-! sorted(set(l)) of such keys -/
namespace SH
open PySem PySem.Spec PyProof.Rows L2
theorem perm_lift {α β : Type} {f : α → β} {l1 l2 : List β} (h : l1.Perm l2) : ∀ L : List α, l2 = L.map f → ∃ M : List α, M.Perm L ∧ l1 = M.map f := by
  refine NoI.keep (fun _ wNoI => ?_) ?_
  simp only [↓ NoI.wrOf wNoI (by
  clear wNoI
  induction h with
  | nil =>
    intro L e
    exact ⟨[], by rw [List.map_eq_nil_iff.mp e.symm], rfl⟩
  | cons x _ ih =>
    intro L e
    cases L with
    | nil => cases e
    | cons a L =>
      rw [List.map_cons] at e
      injection e with e1 e2
      obtain ⟨M, p, q⟩ := ih L e2
      exact ⟨a :: M, p.cons a, by rw [List.map_cons, ← e1, ← q]⟩
  | swap x y l =>
    intro L e
    match L, e with
    | a :: b :: L, e =>
      rw [List.map_cons, List.map_cons] at e
      injection e with e1 e2
      injection e2 with e2 e3
      exact ⟨b :: a :: L, List.Perm.swap .., by rw [List.map_cons, List.map_cons, e1, e2, e3]⟩
    | [_], e => cases e
    | [], e => cases e
  | trans _ _ ih1 ih2 =>
    intro L e
    obtain ⟨M, p, q⟩ := ih2 L e
    obtain ⟨N, p2, q2⟩ := ih1 M q
    exact ⟨N, p2.trans p, q2⟩
  )]
  intro _ hNoI
  simpa using (fun (_ : NoI.Sg) => hNoI) [5]
theorem each_ref : ∀ M : List AK, PySem.W.EachIs (fun (v : Value) (p : AK) => v = Value.ref p.1) (M.map fun p => Value.ref p.1) M
  | [] => .nil
  | p :: M => .cons rfl (each_ref M)
theorem ref_each : ∀ {vs : List Value} {M : List AK}, PySem.W.EachIs (fun (v : Value) (p : AK) => v = Value.ref p.1) vs M → vs = M.map fun p => Value.ref p.1
  | _, _, .nil => rfl
  | _, _, .cons e t => by rw [e, ref_each t]; rfl
theorem each_all {R : Value → AK → Prop} : ∀ M : List AK, (∀ p ∈ M, R (Value.ref p.1) p) → PySem.W.EachIs R (M.map fun p => Value.ref p.1) M
  | [], _ => .nil
  | p :: M, h => .cons (h p List.mem_cons_self) (each_all M fun q hq => h q (List.mem_cons_of_mem _ hq))
section
variable {X : Cx}
def tSortSetK [WW] (K : PySem.W.Frag) (ta : TE) : TE := fun σ H Q => ta σ H fun x H1 => ∃ (ps : List AK) (D : List NestedKey), KeysAt K H1 x ps ∧ D.length < 64 ∧ (∀ p ∈ ps, p.2 ∈ D) ∧ PySem.W.AllAlike (ps.map fun p => p.2.data) ∧ PySem.W.Sortable (ps.map fun p => p.2.data) ∧ (∀ p ∈ ps, p.2.data.depth ≤ 50) ∧
  ∀ (M : List AK) (a : Addr), H1 a = none → (M.map (·.2)).Nodup → (∀ p ∈ M, p ∈ ps) → (∀ p ∈ ps, p.2 ∈ M.map (·.2)) → Q (.ref a) (upd H1 a (.lst ((M.mergeSort (PySem.W.dataLe false fun p : AK => p.2.data)).map fun p => V.ref p.1)))
theorem pe_sortSetK {k0 : Nat} {a : Expr} {ta : TE} {p p2 q pos : Pos} (hr : Room k0 X.A) (hg : Gl X "sorted") (hm : X.mg "sorted" = none) (hg2 : Gl X "set") (hm2 : X.mg "set" = none) (ha : PE X a ta) (hc : X.calm = true := by rfl)
    (na : starEach [a] X.env = (false, eval a X.env) :: starEach [] X.env := by rfl) : PE X (.Call (.Name "sorted" p) [.Call (.Name "set" p2) [a] [] q] [] pos) (@tSortSetK ⟨X.w⟩ X.K ta) := by
  refine NoI.keep (fun _ wNoI => ?_) ?_
  simp only [↓ NoI.wrOf wNoI (by
  clear wNoI
  have hu := hr.units
  refine ⟨fun pins s σ H Q I h => Call_ (ld_blt I hg hm (show bootBuiltins "sorted" = some (.builtin "sorted") by decide +kernel) ?_)⟩
  refine callWith_builtin1 (args_cons (Call_ (ld_blt I hg2 hm2 boot_set ?_)) rfl) rfl rfl
  refine callWith_type1 (args_cons (thn (ha.run pins s σ H _ I h) fun v s1 ⟨x, H1, I1, r1, q1⟩ => args_nil ?_) na) na rfl
  obtain ⟨ps, D, hk, hD, hs, hal, hso, hdp, q1⟩ := q1
  obtain ⟨l, rfl, _⟩ := id hk
  cases r1
  obtain ⟨items, hl2, hit, ka, rds⟩ := keys_in I1 hk
  refine call_setK ps (I1.ok.hd hc) hl2 hit ka D hD hs (by first | (show X.A.units + 12 < cLine; omega) | (show X.A.units + 1 + 12 < cLine; omega)) fun s2 sm => args_nil ?_
  obtain ⟨h', tk, L, es, ep, t, rfl, R, g, kp⟩ := sm
  obtain ⟨ob, g1, g2, g3⟩ := R.obj
  have sz := R.len (s := { s1 with heap := h', toks := tk })
  have fit := R.fit (s := { s1 with heap := h', toks := tk })
  have few := R.few
  refine Calls.call_function_entry kind_sorted plain_sorted entry_sorted (args_sorted1 _) ?_
  unfold Builtin.«sorted»
  refine wpAny_bind (m := checkCount "sorted" 1 1 _) (wpAny_pure ?_)
  have hh : X.A.in1.handled = none := I1.ok.hd hc
  refine wpAny_bind (collect_set (s := { s1 with heap := h', toks := tk }) hh ⟨ob, g1, g2.1, g3⟩ fit (by rw [sz]; unfold scanBound; omega) R.tab.ris R.led fun s3 vs k3 z3 e1 e2 pm => ?_)
  have erow : es.toList.map (·.2) = L.map fun p => Value.ref p.1 := by rw [R.row, List.map_map]; rfl
  rw [erow] at pm
  obtain ⟨M, pM, rfl⟩ := perm_lift pm L rfl
  have inps : ∀ p ∈ M, p ∈ ps := fun p hp => List.mem_of_mem_take (g.from_ p (pM.mem_iff.mp hp))
  have hML : M.length < 64 := by rw [pM.length_eq]; exact few
  refine wpAny_bind (wpAny_newList ?_ (by rw [sizeLine_eq, List.length_map]; omega))
  have keep : ∀ b o, s1.heap.get? b = some o → (s3.heap.push (seqObj "list" (M.map fun p => Value.ref p.1).toArray 0)).get? b = some o := fun b o e => Heap.get?_push_of_some _ (k3 b o (kp b o e))
  have hoL : (s3.heap.push (seqObj "list" (M.map fun p => Value.ref p.1).toArray 0)).get? s3.heap.objs.size = some (seqObj "list" (M.map fun p => Value.ref p.1).toArray 0) := Heap.get?_push_size _ rfl
  have er : PySem.W.EachIs (fun (v : Value) (p : AK) => ∃ as, Reads (s3.heap.push (seqObj "list" (M.map fun p => Value.ref p.1).toArray 0)) v p.2.data as ∧ s3.heap.objs.size ∉ as) (M.map fun p => Value.ref p.1) M :=
    each_all M fun p hp => ⟨[], Reads.keeps keep (rds p (inps p hp)), by simp⟩
  have al2 : PySem.W.AllAlike (M.map fun p => p.2.data) := fun d hd d' hd' => by
    obtain ⟨p, hp, rfl⟩ := List.mem_map.mp hd
    obtain ⟨p', hp', rfl⟩ := List.mem_map.mp hd'
    exact hal _ (List.mem_map.mpr ⟨p, inps p hp, rfl⟩) _ (List.mem_map.mpr ⟨p', inps p' hp', rfl⟩)
  have so2 : PySem.W.Sortable (M.map fun p => p.2.data) := by
    have sub : ∀ d ∈ M.map (fun p => p.2.data), d ∈ ps.map (fun p => p.2.data) := fun d hd => by
      obtain ⟨p, hp, rfl⟩ := List.mem_map.mp hd
      exact List.mem_map.mpr ⟨p, inps p hp, rfl⟩
    rcases hso with z | z
    · exact .inl fun d hd => z d (sub d hd)
    · exact .inr fun d hd => z d (sub d hd)
  refine wpAny_bind (wpAny_holding (PySem.W.list_sort_data (s := { s3 with heap := s3.heap.push (seqObj "list" (M.map fun p => Value.ref p.1).toArray 0) }) (enc := fun p : AK => p.2.data) hoL (each_ref M) er al2 so2 (by rw [sizeLine_eq]; omega) (fun p hp => ?_) fun out ho eo => ?_))
  · have := hdp p (inps p hp)
    show X.A.units + 1 + 1 + p.2.data.depth < cLine
    omega
  obtain rfl := ref_each eo
  obtain ⟨c, hc2⟩ := sortedHeap_at (vs := M.map fun p => Value.ref p.1) (out := ((M.mergeSort (PySem.W.dataLe false fun p : AK => p.2.data)).map fun p => Value.ref p.1).toArray) hoL
  have hlt : ∀ b o, s1.heap.get? b = some o → b < s3.heap.objs.size := fun b o e => Heap.lt_size (k3 b o (kp b o e))
  have kf : ∀ b o, s1.heap.get? b = some o → (sortedHeap (s3.heap.push (seqObj "list" (M.map fun p => Value.ref p.1).toArray 0)) s3.heap.objs.size (M.map fun p => Value.ref p.1) ((M.mergeSort (PySem.W.dataLe false fun p : AK => p.2.data)).map fun p => Value.ref p.1).toArray).get? b = some o := fun b o e => by
    have lt := hlt b o e
    rw [sortedHeap_old (Nat.ne_of_lt lt) (by rw [size_push']; exact Nat.lt_succ_of_lt lt)]
    exact keep b o e
  have hfr : s1.heap.objs.size ≤ s3.heap.objs.size := by
    have : s1.heap.objs.size < h'.objs.size := Heap.lt_size g1
    exact Nat.le_trans (Nat.le_of_lt this) z3
  have hnone : H1 s3.heap.objs.size = none := I1.hok.fresh hfr
  have hfin := q1 M s3.heap.objs.size hnone ((pM.map (·.2)).nodup_iff.mpr R.dif) inps fun p hp => (pM.map (·.2)).mem_iff.mpr (g.all_ p (by rw [List.take_length]; exact hp))
  have hv : Vals ((M.mergeSort (PySem.W.dataLe false fun p : AK => p.2.data)).map fun p => V.ref p.1) ((M.mergeSort (PySem.W.dataLe false fun p : AK => p.2.data)).map fun p => Value.ref p.1) := refs_vals _
  have hz : ((M.mergeSort (PySem.W.dataLe false fun p : AK => p.2.data)).map fun p => V.ref p.1).length ≤ sizeLine := by
    rw [List.length_map, List.length_mergeSort, sizeLine_eq]
    omega
  generalize M.mergeSort (PySem.W.dataLe false fun p : AK => p.2.data) = N at hfin hv hz hc2 kf ⊢
  generalize hF : sortedHeap (s3.heap.push (seqObj "list" (M.map fun p => Value.ref p.1).toArray 0)) s3.heap.objs.size (M.map fun p => Value.ref p.1) (N.map fun p => Value.ref p.1).toArray = hf at hc2 kf ⊢
  have J : L2.Inv X pins σ (upd H1 s3.heap.objs.size (.lst (N.map fun p => V.ref p.1))) { s1 with heap := hf, gens := s3.gens, drawn := s3.drawn, toks := s3.toks } :=
    I1.call (ch := []) (Un.laid kf hfr hnone) (I1.hok.laid kf hfr ⟨hz, _, c, hv, hc2⟩) (by rw [e1]; exact I1.bare) (fun _ z => nomatch z)
  refine wpAny_pure ⟨_, rfl, ?_⟩
  show EP X pins σ Q (Value.ref s3.heap.objs.size) { heap := hf, gens := s3.gens, drawn := s3.drawn, toks := s3.toks, os := s3.os }
  rw [show s3.os = s1.os from e2]
  exact ⟨.ref s3.heap.objs.size, _, J, rfl, hfin⟩
  )]
  intro _ hNoI
  simpa using (fun (_ : NoI.Sg) => hNoI) [5]
end
section
variable [WW] {K : PySem.W.Frag} {Zc : Addr → Prop} {s : S} {x y : SV} {Φ : SV → S → Prop}
theorem kx_datas {ps : List AK} {ks : List TK} (e : ps.map (·.2) = ks.map NestedKey.tup) : (ps.map fun p => p.2.data) = ks.map kx := by
  have z := congrArg (List.map NestedKey.data) e
  rw [List.map_map, List.map_map] at z
  exact z
/-- the keys behind a part of them -/
theorem keys_back : ∀ {M ps : List AK} {ks : List TK}, ps.map (·.2) = ks.map NestedKey.tup → (∀ p ∈ M, p ∈ ps) → ∃ ms : List TK, M.map (·.2) = ms.map NestedKey.tup
  | [], _, _, _, _ => ⟨[], rfl⟩
  | p :: M, ps, ks, e, h => by
    obtain ⟨ms, em⟩ := keys_back (M := M) e fun q hq => h q (List.mem_cons_of_mem _ hq)
    have : p.2 ∈ ks.map NestedKey.tup := by rw [← e]; exact List.mem_map_of_mem (h p List.mem_cons_self)
    obtain ⟨k, _, ek⟩ := List.mem_map.mp this
    exact ⟨k :: ms, by rw [List.map_cons, List.map_cons, ek, em]⟩
theorem mem_tup {k : TK} {ms : List TK} : NestedKey.tup k ∈ ms.map NestedKey.tup ↔ k ∈ ms := by
  rw [List.mem_map]
  constructor
  · rintro ⟨j, hj, e⟩
    injection e with e
    rw [← e]; exact hj
  · intro h
    exact ⟨k, h, rfl⟩
theorem ev_sortSetK {te : TE} (h : EvS K Zc te s (asD fun d s' => ∃ ks D : List TK, seqD d = some (ks.map kx) ∧ (∀ k ∈ ks, (NestedKey.tup k).depth ≤ 8) ∧ D.length < 64 ∧ (∀ k ∈ ks, k ∈ D) ∧ PySem.W.AllAlike (ks.map kx) ∧ PySem.W.Sortable (ks.map kx) ∧ (∀ k ∈ ks, (kx k).depth ≤ 50) ∧
    ∀ ms : List TK, ms.Nodup → (∀ k, k ∈ ms ↔ k ∈ ks) → Φ (.own s'.mem.length) ⟨s'.sl, s'.mem ++ [some (.list (sortD (ms.map kx)))]⟩)) : EvS K Zc (tSortSetK K te) s Φ := by
  refine NoI.keep (fun _ wNoI => ?_) ?_
  simp only [↓ NoI.wrOf wNoI (by
  clear wNoI
  intro ad H σ Q I p
  refine ev_asD (Φ := fun sv s' => ∃ d, ∃ ks D : List TK, sv = .dat d ∧ seqD d = some (ks.map kx) ∧ (∀ k ∈ ks, (NestedKey.tup k).depth ≤ 8) ∧ D.length < 64 ∧ (∀ k ∈ ks, k ∈ D) ∧ PySem.W.AllAlike (ks.map kx) ∧ PySem.W.Sortable (ks.map kx) ∧ (∀ k ∈ ks, (kx k).depth ≤ 50) ∧
    ∀ ms : List TK, ms.Nodup → (∀ k, k ∈ ms ↔ k ∈ ks) → Φ (.own s'.mem.length) ⟨s'.sl, s'.mem ++ [some (.list (sortD (ms.map kx)))]⟩) h (fun d s' ⟨ks, D, k⟩ => ⟨d, ks, D, rfl, k⟩) ad H σ _ I fun v ad1 H1 sv s1 h1 I1 F1 r1 => ?_
  obtain ⟨d, ks, D, rfl, hs, hz, hD, hin, ha, hso, hdp, k⟩ := h1
  obtain ⟨pz, hk, e, hdv⟩ := keysAt_of (H1 := H1) (show DV K _ v d from r1) (fun z => dp_mono Fz_le _ _ z) hs hz (fun z => SqL.of (Fz_at z)) (fun z => sqT_same Fz_le z)
  have ed := kx_datas e
  refine ⟨pz, D.map NestedKey.tup, hk, by rw [List.length_map]; exact hD, fun p hp => ?_, by rw [ed]; exact ha, by rw [ed]; exact hso, fun p hp => ?_, fun M a hn hd hsub hall => ?_⟩
  · have : p.2 ∈ ks.map NestedKey.tup := by rw [← e]; exact List.mem_map_of_mem hp
    obtain ⟨j, hj, ej⟩ := List.mem_map.mp this
    rw [← ej]
    exact List.mem_map_of_mem (hin j hj)
  · have : p.2.data ∈ ks.map kx := by rw [← ed]; exact List.mem_map.mpr ⟨p, hp, rfl⟩
    obtain ⟨j, hj, ej⟩ := List.mem_map.mp this
    rw [← ej]
    exact hdp j hj
  · obtain ⟨ms, em⟩ := keys_back e hsub
    have nd : ms.Nodup := by
      rw [em] at hd
      exact List.Pairwise.of_map NestedKey.tup (fun a b hab z => hab (by rw [z])) hd
    have mem : ∀ j, j ∈ ms ↔ j ∈ ks := fun j => by
      constructor
      · intro hj
        have : NestedKey.tup j ∈ M.map (·.2) := by rw [em]; exact mem_tup.mpr hj
        obtain ⟨p, hp, ep⟩ := List.mem_map.mp this
        have : p.2 ∈ ks.map NestedKey.tup := by rw [← e]; exact List.mem_map_of_mem (hsub p hp)
        rw [ep] at this
        exact mem_tup.mp this
      · intro hj
        have : NestedKey.tup j ∈ pz.map (·.2) := by rw [e]; exact mem_tup.mpr hj
        obtain ⟨p, hp, ep⟩ := List.mem_map.mp this
        have := hall p hp
        rw [ep, em] at this
        exact mem_tup.mp this
    refine (p.step F1).lst I1 (k ms nd mem) hn ?_
    have es : ((M.mergeSort (PySem.W.dataLe false fun p : AK => p.2.data)).map fun p => p.2.data) = sortD (ms.map kx) := by
      unfold sortD
      rw [← kx_datas em]
      exact List.map_mergeSort (fun a _ b _ => rfl)
    rw [← es]
    have key : ∀ N : List AK, (∀ p ∈ N, p ∈ pz) → DVs K (FZ Zc ad1 s1.mem H1) (N.map fun p => V.ref p.1) (N.map fun p => p.2.data) := fun N => by
      induction N with
      | nil => intro _; exact .nil
      | cons p N ih =>
        intro hN
        exact .cons (hdv p (hN p List.mem_cons_self)) (ih fun q hq => hN q (List.mem_cons_of_mem _ hq))
    exact key _ fun p hp => hsub p ((List.mergeSort_perm _ _).mem_iff.mp hp)
  )]
  intro _ hNoI
  simpa using (fun (_ : NoI.Sg) => hNoI) [5]
end
end SH

/-! list(d) of a dict; zip of three lists -/
namespace SH
open PySem PySem.Spec PyProof.Rows L2
section
variable {X : Cx} {pins : List (Addr × Obj)} {σ : L2.St} {H : Hp} {s : Shared} {d : Addr} {o : Obj} {u : HO} {ps : List (V × V)}
theorem frz_size (I : L2.Inv X pins σ H s) (h : H d = some (.frz o u)) (e : @EntOf ⟨X.w⟩ d u ps) : ps.length ≤ sizeLine := by
  refine NoI.keep (fun _ wNoI => ?_) ?_
  simp only [↓ NoI.wrOf wNoI (by
  clear wNoI
  rcases e with ⟨kvs, rfl, rfl⟩ | ⟨xs, rfl, rfl⟩
  · obtain ⟨hg, hh⟩ := I.hok d _ h
    obtain ⟨z, _⟩ := hh
    rw [List.length_map]; exact z
  · obtain ⟨hg, hh⟩ := I.hok d _ h
    obtain ⟨z, _⟩ := hh.1
    rw [List.length_map]; exact z.1
  )]
  intro _ hNoI
  simpa using (fun (_ : NoI.Sg) => hNoI) [5]
def tListD [WW] (td : TE) : TE := fun σ H Q => td σ H fun x H1 => ∃ d u ps, x = .ref d ∧ EntOf d u ps ∧ Rd H1 d u ∧ ∀ a, H1 a = none → Q (.ref a) (upd H1 a (.lst (ps.map (·.1))))
theorem pe_listD {e : Expr} {td : TE} {p pos : Pos} (hc : X.calm = true) (hg : Gl X "list") (hm : X.mg "list" = none) (he : PE X e td)
    (na : starEach [e] X.env = (false, eval e X.env) :: starEach [] X.env := by rfl) : PE X (.Call (.Name "list" p) [e] [] pos) (@tListD ⟨X.w⟩ td) := by
  refine NoI.keep (fun _ wNoI => ?_) ?_
  simp only [↓ NoI.wrOf wNoI (by
  clear wNoI
  refine ⟨fun pins s σ H Q I h => Call_ (ld_blt I hg hm (show bootBuiltins "list" = some (.type "list") by decide +kernel) ?_)⟩
  refine callWith_type1 (args_cons (thn (he.run pins s σ H _ I h) fun u0 s1 ⟨x, H0, I0, rx, q1⟩ => args_nil ?_) na) na rfl
  obtain ⟨d, u, ps, ex, en, hrd, q⟩ := q1
  subst ex
  obtain rfl : u0 = Value.ref d := rx
  obtain ⟨o, H1, I1, hd⟩ : ∃ o H1, L2.Inv X pins σ H1 s1 ∧ H1 d = some (.frz o u) := by
    rcases hrd with z | ⟨o, z⟩
    · obtain ⟨o, J⟩ := I0.lock z (@EntOf.dc ⟨X.w⟩ _ _ _ en).2
      exact ⟨o, _, J, upd_same⟩
    · exact ⟨o, H0, I0, z⟩
  have hz := frz_size I1 hd en
  obtain ⟨hs, hgd, hx, es, ep, hdt, hsz, ent⟩ := frzD I1 hd en
  refine PySem.W.kdl_call (kdl_raw hs hx hdt) (I1.ok.hd hc) hgd (by rw [hsz]; exact hz) fun h' tk acc' c' hkeep hS hacc => ?_
  refine ⟨.ref s1.heap.objs.size, upd H0 s1.heap.objs.size (.lst (ps.map (·.1))), I0.laid hkeep (Nat.le_refl _) (show ObjOk X.prog X.w _ _ _ (.lst (ps.map (·.1))) from ⟨?_, acc'.toList, c', ?_, ?_⟩), rfl, q _ (I0.hok.fresh (Nat.le_refl _))⟩
  · rw [List.length_map]; exact hz
  · have el : acc'.toList.length = acc'.size := by simp
    refine vals_of_at (by rw [List.length_map, el, hacc.1, hsz]) fun j x w h1 h2 => ?_
    obtain ⟨en2, hen, rfl⟩ := hacc.2 j w (by rw [← Array.getElem?_toList]; exact h2)
    rw [List.getElem?_map] at h1
    obtain ⟨p2, hp2, rfl⟩ := Option.map_eq_some_iff.mp h1
    obtain ⟨hi, rk, _⟩ := ent j p2 hp2
    rw [Array.getElem?_eq_getElem hi] at hen
    cases hen
    exact rk
  · rw [Array.toArray_toList]; exact hS
  )]
  intro _ hNoI
  simpa using (fun (_ : NoI.Sg) => hNoI) [5]
end
section
variable [WW] {K : PySem.W.Frag} {Zc : Addr → Prop} {s : S} {Φ : SV → S → Prop}
theorem ev_listD {te : TE} (h : EvS K Zc te s (asD fun d s' => ∃ es : List (D × D), d = .dict es ∧ Φ (.own s'.mem.length) ⟨s'.sl, s'.mem ++ [some (.list (es.map (·.1)))]⟩)) : EvS K Zc (tListD te) s Φ := by
  refine NoI.keep (fun _ wNoI => ?_) ?_
  simp only [↓ NoI.wrOf wNoI (by
  clear wNoI
  intro ad H σ Q I p
  refine ev_asD (Φ := fun sv s' => ∃ es : List (D × D), sv = .dat (.dict es) ∧ Φ (.own s'.mem.length) ⟨s'.sl, s'.mem ++ [some (.list (es.map (·.1)))]⟩) h (fun d s' ⟨es, e, k⟩ => ⟨es, by rw [e], k⟩) ad H σ _ I fun v ad1 H1 sv s1 h1 I1 F1 r1 => ?_
  obtain ⟨es, rfl, k⟩ := h1
  obtain ⟨d, u, ps, rfl, en, hr, hd⟩ := dict_ent (show DV K _ v (.dict es) from r1)
  exact ⟨d, u, ps, rfl, en, rd_same hr Fz_le, fun a ha => (p.step F1).lst I1 k ha hd.1⟩
  )]
  intro _ hNoI
  simpa using (fun (_ : NoI.Sg) => hNoI) [5]
end
/-! zip(a, b, c) -/
section
variable [WW]
def Itz3 (K : PySem.W.Frag) (a b c : Addr) (xs ys us : List V) : It :=
  ⟨fun i H => SqL K H a xs ∧ SqL K H b ys ∧ SqL K H c us ∧ i < xs.length ∧ i < ys.length ∧ i < us.length,
    fun i H v H' => ∃ T x y u, v = .ref T ∧ H T = none ∧ H' = upd H T (.tup [x, y, u]) ∧ xs[i]? = some x ∧ ys[i]? = some y ∧ us[i]? = some u,
    fun i H => SqL K H a xs ∧ SqL K H b ys ∧ SqL K H c us ∧ (xs.length ≤ i ∨ ys.length ≤ i ∨ us.length ≤ i)⟩
end
theorem turn_zip3 {P : Program} {w : World} {K : PySem.W.Frag} {elts : List Expr} {kk : Nat} {tpos : Pos} {a b c z TI TO i1 i2 i3 : Addr} {xs ys us : List V} (D : ZipSep3 z TI TO i1 i2 i3 [i1, a] [i2, b] [i3, c]) :
    Turn P w K (.Tuple elts kk tpos) (Itz3 K a b c xs ys us) [z, TI, TO, i1, i2, i3] z (fun i h => PySem.IsZip h z TI TO .none ∧ IsTupOf3 h TI (.ref i1) (.ref i2) (.ref i3) ∧ (∃ x y u, IsTupOf3 h TO x y u) ∧ (h.IsListIter i1 a i ∧ h.IsListIter i2 b i ∧ h.IsListIter i3 c i) ∧ i ≤ xs.length ∧ i ≤ ys.length ∧ i ≤ us.length) where
  mem := by simp
  obj := fun i h st c hc => by
    obtain ⟨hz, hTI, ⟨x, y, u, hTO⟩, ⟨⟨o1, e1, _, d1⟩, ⟨o2, e2, _, d2⟩, ⟨o3, e3, _, d3⟩⟩, _⟩ := st
    have e' : c = z ∨ c = TI ∨ c = TO ∨ c = i1 ∨ c = i2 ∨ c = i3 := by simpa using hc
    rcases e' with q | q | q | q | q | q
    · rw [q]; exact ⟨_, hz, fun v q => nomatch q⟩
    · rw [q]; exact ⟨_, hTI, fun v q => nomatch q⟩
    · rw [q]; exact ⟨_, hTO, fun v q => nomatch q⟩
    · rw [q]; exact ⟨o1, e1, fun v q => by rw [d1] at q; cases q⟩
    · rw [q]; exact ⟨o2, e2, fun v q => by rw [d2] at q; cases q⟩
    · rw [q]; exact ⟨o3, e3, fun v q => by rw [d3] at q; cases q⟩
  keep := fun i h h' st k => by
    obtain ⟨hz, hTI, ⟨x, y, u, hTO⟩, ⟨h1, h2, h3⟩, l⟩ := st
    exact ⟨k z (by simp) _ hz, k TI (by simp) _ hTI, ⟨x, y, u, k TO (by simp) _ hTO⟩, ⟨h1.at fun o q => k i1 (by simp) o q, h2.at fun o q => k i2 (by simp) o q, h3.at fun o q => k i3 (by simp) o q⟩, l⟩
  item := by
    intro X hP hw hK hc i pins s σ H E I hf st hg
    subst hP hw hK
    obtain ⟨hz, hTI, ⟨x0, y0, u0, hTO⟩, ⟨h1, h2, h3⟩, _⟩ := st
    obtain ⟨hqx, hqy, hqu, lx, ly, lu⟩ := hg
    obtain ⟨its, rv, p, _⟩ := I.list hqx
    obtain ⟨its2, rv2, p2, _⟩ := I.list hqy
    obtain ⟨its3, rv3, p3, _⟩ := I.list hqu
    have l1 := rv.length
    have l2 := rv2.length
    have l3 := rv3.length
    have hh : X.A.in1.handled = none := I.ok.hd hc
    have ni1 : a ≠ i1 := fun q => by subst q; obtain ⟨o, e, cl, _⟩ := h1; obtain ⟨o', e', cl', _⟩ := p.isList; rw [e] at e'; cases e'; rw [cl] at cl'; exact absurd cl' (by decide)
    have ni2 : b ≠ i2 := fun q => by subst q; obtain ⟨o, e, cl, _⟩ := h2; obtain ⟨o', e', cl', _⟩ := p2.isList; rw [e] at e'; cases e'; rw [cl] at cl'; exact absurd cl' (by decide)
    have ni3 : c ≠ i3 := fun q => by subst q; obtain ⟨o, e, cl, _⟩ := h3; obtain ⟨o', e', cl', _⟩ := p3.isList; rw [e] at e'; cases e'; rw [cl] at cl'; exact absurd cl' (by decide)
    have D1 := Draws.list (prog := X.prog) (w := X.w) hh i1 a ni1 its.toArray
    have D2 := Draws.list (prog := X.prog) (w := X.w) hh i2 b ni2 its2.toArray
    have D3 := Draws.list (prog := X.prog) (w := X.w) hh i3 c ni3 its3.toArray
    have hzl : z < s.heap.objs.size := Heap.lt_size hz
    refine wpAny_pyNext_zipD3_item D D1 D2 D3 hz hTI hTO ⟨h1, p.isList⟩ ⟨h2, p2.isList⟩ ⟨h3, p3.isList⟩ (by simp; omega) (by simp; omega) (by simp; omega) fun v1 v2 v3 h' tk e1 e2 e3 z' TO' h1' h2' h3' hT hsz hk => ?_
    refine ⟨_, rfl, wpAny_letOwnedTupleGo_zip (s := { s with heap := h', toks := tk }) z' fun h'' z'' sb => ?_⟩
    have hT2 : h''.get? s.heap.objs.size = some { cls := .type "tuple", data := .seq #[v1, v2, v3] } := (sb.2 _ (Nat.ne_of_gt hzl)).trans hT
    obtain ⟨x, hx⟩ : ∃ x, xs[i]? = some x := ⟨_, List.getElem?_eq_getElem lx⟩
    obtain ⟨y, hy⟩ : ∃ x, ys[i]? = some x := ⟨_, List.getElem?_eq_getElem ly⟩
    obtain ⟨u, hu⟩ : ∃ x, us[i]? = some x := ⟨_, List.getElem?_eq_getElem lu⟩
    obtain ⟨w1, hw1, r1⟩ := rv.get hx
    obtain ⟨w2, hw2, r2⟩ := rv2.get hy
    obtain ⟨w3, hw3, r3⟩ := rv3.get hu
    obtain rfl : w1 = v1 := by have q : its[i]? = some v1 := by simpa using e1
                               rw [q] at hw1; exact (Option.some.inj hw1).symm
    obtain rfl : w2 = v2 := by have q : its2[i]? = some v2 := by simpa using e2
                               rw [q] at hw2; exact (Option.some.inj hw2).symm
    obtain rfl : w3 = v3 := by have q : its3[i]? = some v3 := by simpa using e3
                               rw [q] at hw3; exact (Option.some.inj hw3).symm
    have new : ObjOk X.prog X.w (upd H s.heap.objs.size (.tup [x, y, u])) h'' s.heap.objs.size (.tup [x, y, u]) :=
      ⟨by show 3 ≤ sizeLine; decide, [w1, w2, w3], .cons r1 (.cons r2 (.cons r3 .nil)), ⟨_, hT2, rfl, _, rfl⟩⟩
    have I1 : L2.Inv X pins σ (upd H s.heap.objs.size (.tup [x, y, u])) { s with heap := h'', toks := tk } :=
      I.turnedNew (t' := tk) (ch := [z, TI, TO, i1, i2, i3]) (fun c o hb q => (sb.2 c (fun q' => hb (by simp [q']))).trans (hk c o (fun q' => hb (by simp [q'])) (fun q' => hb (by simp [q'])) (fun q' => hb (by simp [q'])) (fun q' => hb (by simp [q'])) (fun q' => hb (by simp [q'])) q)) hf (Nat.le_refl _) new
    refine ⟨.ref s.heap.objs.size, _, I1, rfl, ⟨_, x, y, u, rfl, I.hok.fresh (Nat.le_refl _), rfl, hx, hy, hu⟩, ⟨z'', ?_, ⟨w1, w2, w3, ?_⟩, ⟨?_, ?_, ?_⟩, lx, ly, lu⟩, fun c hcm => ?_⟩
    · exact (sb.2 _ D.TIz).trans (hk _ _ D.TIz D.TITO D.TIi1 D.TIi2 D.TIi3 hTI)
    · exact (sb.2 _ D.TOz).trans TO'
    · exact h1'.1.at fun o q => (sb.2 _ D.zi1.symm).trans q
    · exact h2'.1.at fun o q => (sb.2 _ D.zi2.symm).trans q
    · exact h3'.1.at fun o q => (sb.2 _ D.zi3.symm).trans q
    · have hlt : c < s.heap.objs.size := by
        have e' : c = z ∨ c = TI ∨ c = TO ∨ c = i1 ∨ c = i2 ∨ c = i3 := by simpa using hcm
        rcases e' with q | q | q | q | q | q
        · rw [q]; exact hzl
        · rw [q]; exact Heap.lt_size hTI
        · rw [q]; exact Heap.lt_size hTO
        · rw [q]; obtain ⟨_, e1, _⟩ := h1; exact Heap.lt_size e1
        · rw [q]; obtain ⟨_, e2, _⟩ := h2; exact Heap.lt_size e2
        · rw [q]; obtain ⟨_, e3, _⟩ := h3; exact Heap.lt_size e3
      rw [upd_ne (Nat.ne_of_lt hlt)]
      exact (hf c hcm).1
  done := by
    intro X hP hw hK hc i pins s σ H E I hf st hg
    subst hP hw hK
    obtain ⟨hz, hTI, ⟨x0, y0, u0, hTO⟩, ⟨h1, h2, h3⟩, lx, ly, lu⟩ := st
    obtain ⟨hqx, hqy, hqu, hend⟩ := hg
    obtain ⟨its, rv, p, _⟩ := I.list hqx
    obtain ⟨its2, rv2, p2, _⟩ := I.list hqy
    obtain ⟨its3, rv3, p3, _⟩ := I.list hqu
    have l1 := rv.length
    have l2 := rv2.length
    have l3 := rv3.length
    have hh : X.A.in1.handled = none := I.ok.hd hc
    have ni1 : a ≠ i1 := fun q => by subst q; obtain ⟨o, e, cl, _⟩ := h1; obtain ⟨o', e', cl', _⟩ := p.isList; rw [e] at e'; cases e'; rw [cl] at cl'; exact absurd cl' (by decide)
    have ni2 : b ≠ i2 := fun q => by subst q; obtain ⟨o, e, cl, _⟩ := h2; obtain ⟨o', e', cl', _⟩ := p2.isList; rw [e] at e'; cases e'; rw [cl] at cl'; exact absurd cl' (by decide)
    have ni3 : c ≠ i3 := fun q => by subst q; obtain ⟨o, e, cl, _⟩ := h3; obtain ⟨o', e', cl', _⟩ := p3.isList; rw [e] at e'; cases e'; rw [cl] at cl'; exact absurd cl' (by decide)
    have D1 := Draws.list (prog := X.prog) (w := X.w) hh i1 a ni1 its.toArray
    have D2 := Draws.list (prog := X.prog) (w := X.w) hh i2 b ni2 its2.toArray
    have D3 := Draws.list (prog := X.prog) (w := X.w) hh i3 c ni3 its3.toArray
    exact wpAny_pyNext_zipD3_end D D1 D2 D3 hz hTI hTO ⟨h1, p.isList⟩ ⟨h2, p2.isList⟩ ⟨h3, p3.isList⟩ (by simp; omega) (by simp; omega) (by simp; omega) (by simp; omega) fun h' tk hk => ⟨rfl, I.turnedL (t' := tk) (ch := [z, TI, TO, i1, i2, i3]) (fun c o hb q =>
      hk c o (fun q' => hb (by simp [q'])) (fun q' => hb (by simp [q'])) (fun q' => hb (by simp [q'])) (fun q' => hb (by simp [q'])) (fun q' => hb (by simp [q'])) q) hf⟩
  self := fun A i s Q E st h => wpAny_pyIter_zip st.1 h
section
variable [WW]
def iZip3 (K : PySem.W.Frag) (ta : TA) : TI := fun σ H R => ta σ H fun vs H1 => ∃ a b c xs ys us, vs = [.ref a, .ref b, .ref c] ∧ SqL K H1 a xs ∧ SqL K H1 b ys ∧ SqL K H1 c us ∧ R (Itz3 K a b c xs ys us) H1
end
theorem pi_zip3 {X : Cx} {e e2 e3 : Expr} {ta : TA} {p pos tpos : Pos} {elts : List Expr} {kk : Nat} (hg : Gl X "zip") (hm : X.mg "zip" = none) (ha : PA X [e, e2, e3] ta)
    (hs : starEach [e, e2, e3] X.env = (false, eval e X.env) :: starEach [e2, e3] X.env := by rfl) (hpl : (backTo pos (starEach [e2, e3] X.env)).any (·.1) = false := by rfl) :
    PI X (.Tuple elts kk tpos) (.Call (.Name "zip" p) [e, e2, e3] [] pos) (@iZip3 X.K ta) := by
  refine NoI.keep (fun _ wNoI => ?_) ?_
  simp only [↓ NoI.wrOf wNoI (by
  clear wNoI
  refine ⟨fun pins s σ H R I h => ?_⟩
  refine Call_ (ld_blt I hg hm PyProof.Rows.boot_zip (PyProof.Rows.callWith_type1 (thn (ha.run pos pins s σ H _ I h) fun us0 s1 ⟨vs, H1, I1, r1, q1⟩ => ?_) hs hpl))
  obtain ⟨a, b, c, xs, ys, us, ex, hqx, hqy, hqu, q⟩ := q1
  subst ex
  obtain ⟨its, rv, p1, _⟩ := I1.list hqx
  obtain ⟨its2, rv2, p2, _⟩ := I1.list hqy
  obtain ⟨its3, rv3, p3, _⟩ := I1.list hqu
  cases r1 with
  | cons r rr =>
    cases rr with
    | cons r' rr =>
      cases rr with
      | cons r'' rr =>
        cases rr
        cases r
        cases r'
        cases r''
        have la : a < s1.heap.objs.size := p1.lt
        have lb : b < s1.heap.objs.size := p2.lt
        have lc : c < s1.heap.objs.size := p3.lt
        refine zip_begins3 (begins_list a its.toArray) (begins_list b its2.toArray) (begins_list c its3.toArray) p1.isList p2.isList p3.isList fun h' hz hTI hTO h1 h2 h3 hsz hk => wpAny_pyIter_zip hz ?_
        have I2 : L2.Inv X pins σ H1 { s1 with heap := h' } := I1.kept (t' := s1.toks) hk
        have fr : ∀ d, d ∈ [s1.heap.objs.size + 5, s1.heap.objs.size + 3, s1.heap.objs.size + 4, s1.heap.objs.size, s1.heap.objs.size + 1, s1.heap.objs.size + 2] → FpOk X pins H1 d := fun d hcm => by
          have e' : d = s1.heap.objs.size + 5 ∨ d = s1.heap.objs.size + 3 ∨ d = s1.heap.objs.size + 4 ∨ d = s1.heap.objs.size ∨ d = s1.heap.objs.size + 1 ∨ d = s1.heap.objs.size + 2 := by simpa using hcm
          have hle : s1.heap.objs.size ≤ d := by
            rcases e' with z | z | z | z | z | z <;> (rw [z]; first | exact Nat.le_add_right _ _ | exact Nat.le_refl _)
          exact I1.fpOk hle (I1.hok.fresh hle)
        exact ⟨s1.heap.objs.size + 5, [s1.heap.objs.size + 5, s1.heap.objs.size + 3, s1.heap.objs.size + 4, s1.heap.objs.size, s1.heap.objs.size + 1, s1.heap.objs.size + 2], _, _, H1, rfl, I2,
          turn_zip3 (PySem.zip_sep3 (by simpa using la) (by simpa using lb) (by simpa using lc)), ⟨hz, hTI, ⟨_, _, _, hTO⟩, ⟨⟨_, h1, rfl, rfl⟩, ⟨_, h2, rfl, rfl⟩, ⟨_, h3, rfl, rfl⟩⟩, Nat.zero_le _, Nat.zero_le _, Nat.zero_le _⟩, fr, q⟩
  )]
  intro _ hNoI
  simpa using (fun (_ : NoI.Sg) => hNoI) [5]
/-- the triples -/
def zip3D (xs ys us : List D) : List D := (xs.zip (ys.zip us)).map fun p => .tuple [p.1, p.2.1, p.2.2]
section
variable [WW] {K : PySem.W.Frag} {Zc : Addr → Prop} {s : S}
theorem zip3D_len {xs ys us : List D} : (zip3D xs ys us).length = min xs.length (min ys.length us.length) := by simp [zip3D]
theorem zip3D_get {xs ys us : List D} {i : Nat} {a b c : D} (h : xs[i]? = some a) (h2 : ys[i]? = some b) (h3 : us[i]? = some c) : (zip3D xs ys us)[i]? = some (.tuple [a, b, c]) := by
  refine NoI.keep (fun _ wNoI => ?_) ?_
  simp only [↓ NoI.wrOf wNoI (by
  clear wNoI
  have hp : (xs.zip (ys.zip us))[i]? = some (a, (b, c)) := List.getElem?_zip_eq_some.mpr ⟨h, List.getElem?_zip_eq_some.mpr ⟨h2, h3⟩⟩
  rw [zip3D, List.getElem?_map, hp]; rfl
  )]
  intro _ hNoI
  simpa using (fun (_ : NoI.Sg) => hNoI) [5]
theorem dv_three {ad : List Addr} {H : Hp} {m : Mem} {x y u : V} {d e f : D} {T : Addr} (M : MR K Zc ad H m) (hT : H T = none) (hs : strsD [d, e, f] = false) (r : DV K (FZ Zc ad m H) x d) (r2 : DV K (FZ Zc ad m H) y e) (r3 : DV K (FZ Zc ad m H) u f) : DV K (FZ Zc ad m (upd H T (.tup [x, y, u]))) (.ref T) (.tuple [d, e, f]) :=
  .tup (.inr ⟨hs, M.newT_at hT⟩) (.cons (dp_mono (Frm.newT (ad := ad) (m := m) hT).same _ _ r) (.cons (dp_mono (Frm.newT (ad := ad) (m := m) hT).same _ _ r2) (.cons (dp_mono (Frm.newT (ad := ad) (m := m) hT).same _ _ r3) .nil)))
theorem strs_three {d e f : D} (h : strsD [d] = false) : strsD [d, e, f] = false := by
  simp only [strsD, List.all_cons, List.all_nil, Bool.and_true] at h ⊢
  rw [h, Bool.false_and]
theorem jok_zip3 {a b c : Addr} {vs us ws : List V} {xs ys zs : List D} {F : Hp} (h : F a = some (.lst vs)) (hv : DVs K F vs xs) (h2 : F b = some (.lst us)) (hu : DVs K F us ys) (h3 : F c = some (.lst ws)) (hw : DVs K F ws zs) (hs : ∀ x ∈ xs, strsD [x] = false) : JOk K Zc (Itz3 K a b c vs us ws) (zip3D xs ys zs) F := by
  refine NoI.keep (fun _ wNoI => ?_) ?_
  simp only [↓ NoI.wrOf wNoI (by
  clear wNoI
  intro i ad H m e M
  have ha : SqL K H a vs := SqL.of (Fz_at (e.nd h rfl))
  have hb : SqL K H b us := SqL.of (Fz_at (e.nd h2 rfl))
  have hc : SqL K H c ws := SqL.of (Fz_at (e.nd h3 rfl))
  have hv' := dpAll_mono e _ _ hv
  have hu' := dpAll_mono e _ _ hu
  have hw' := dpAll_mono e _ _ hw
  have l1 := dpAll_len hv
  have l2 := dpAll_len hu
  have l3 := dpAll_len hw
  refine ⟨fun hi => ?_, fun hi => ⟨ha, hb, hc, by rw [zip3D_len] at hi; omega⟩⟩
  rw [zip3D_len] at hi
  refine ⟨⟨ha, hb, hc, by omega, by omega, by omega⟩, fun x H' y => ?_⟩
  obtain ⟨T, z, w, q, rfl, hT, rfl, hz, hw2, hq⟩ := y
  obtain ⟨d, hd, r⟩ := dpAll_get' hv' hz
  obtain ⟨d2, hd2, r2⟩ := dpAll_get' hu' hw2
  obtain ⟨d3, hd3, r3⟩ := dpAll_get' hw' hq
  exact ⟨.inr ⟨T, _, hT, rfl⟩, .tuple [d, d2, d3], zip3D_get hd hd2 hd3, dv_three M hT (strs_three (hs d (List.mem_of_getElem? hd))) r r2 r3⟩
  )]
  intro _ hNoI
  simpa using (fun (_ : NoI.Sg) => hNoI) [5]
theorem it_zip3 {ta : TA} {Ψ : List D → S → Prop} (h : ArD K Zc ta s fun ds s' => ∃ xs ys zs, ds = [.list xs, .list ys, .list zs] ∧ (∀ x ∈ xs, strsD [x] = false) ∧ Ψ (zip3D xs ys zs) s') : IterS K Zc (iZip3 K ta) s Ψ := by
  refine NoI.keep (fun _ wNoI => ?_) ?_
  simp only [↓ NoI.wrOf wNoI (by
  clear wNoI
  intro ad H σ R I p
  refine h ad H σ _ I fun vs ad1 H1 svs s1 h1 I1 F1 r1 => ?_
  obtain ⟨ds, hx, xs, ys, zs, rfl, hs, k⟩ := h1
  subst hx
  obtain ⟨v, u, w, rfl, r, r', r''⟩ := vrs3 r1
  obtain ⟨a, ws, rfl, h2, h3⟩ := lst_of (show DV K _ v (.list xs) from r)
  obtain ⟨b, us, rfl, h4, h5⟩ := lst_of (show DV K _ u (.list ys) from r')
  obtain ⟨c, qs, rfl, h6, h7⟩ := lst_of (show DV K _ w (.list zs) from r'')
  exact ⟨a, b, c, ws, us, qs, rfl, SqL.of (Fz_at h2), SqL.of (Fz_at h4), SqL.of (Fz_at h6), p _ ad1 H1 _ s1 k I1 F1 (jok_zip3 h2 h3 h4 h5 h6 h7 hs)⟩
  )]
  intro _ hNoI
  simpa using (fun (_ : NoI.Sg) => hNoI) [5]
end
end SH

namespace LW
open PySem PySem.Spec PyProof.Rows L2 SH
variable [WW]

/-! ### the law's bag of draws -/
structure Bag where
  a : Int
  c : Int
  k : Nat
  cells : List Int
def Bag.d (b : Bag) : D := .list [.int b.a, .int b.c, .int (b.k : Int), .list (b.cells.map .int)]
/-- T draws may still come -/
structure WB (T : Nat) (b : Bag) : Prop where
  a0 : 0 ≤ b.a
  c0 : 0 ≤ b.c
  c1 : b.c < 2147483647
  k1 : b.k + T ≤ 1000000
  ce : ∀ x ∈ b.cells, 0 ≤ x
  cl : b.cells.length ≤ 63
theorem WB.less {T U : Nat} {b : Bag} (h : WB T b) (u : U ≤ T) : WB U b := ⟨h.a0, h.c0, h.c1, by have := h.k1; omega, h.ce, h.cl⟩

def dS (ws : List Str) : List D := ws.map .str
/-- strings that stand in words: short, of letters -/
def NameOk (x : Str) : Prop := (∀ c ∈ x.cps.toList, 97 ≤ c ∧ c ≤ 122) ∧ x.length ≤ 12
def NamesOk (ws : List Str) : Prop := ∀ x ∈ ws, NameOk x

/-! ### reduced words -/
def push : List Str → Str → List Str
  | [], x => [x]
  | y :: ys, x => if y = x then ys else x :: y :: ys
/-- the stack behind the items, its top first -/
def stk (ws : List Str) : List Str := ws.foldl push []
def redS (ws : List Str) : List Str := (stk ws).reverse

/-! ### contracts -/
def C_reduced : Ct := fun svs m Ψ => ∃ ws : List Str, svs = [.dat (.tuple (dS ws))] ∧ m = [] ∧ NamesOk ws ∧ ws.length ≤ 1000000 ∧ ∀ m', Ψ (.dat (.tuple (dS (redS ws)))) m'
def C_joined : Ct := fun svs m Ψ => ∃ ws us : List Str, svs = [.dat (.tuple (dS ws)), .dat (.tuple (dS us))] ∧ m = [] ∧ NamesOk ws ∧ NamesOk us ∧ ws.length + us.length ≤ 1000000 ∧ ∀ m', Ψ (.dat (.tuple (dS (redS (ws ++ us))))) m'
def C_inverse : Ct := fun svs m Ψ => ∃ ws : List Str, svs = [.dat (.tuple (dS ws))] ∧ m = [] ∧ ∀ m', Ψ (.dat (.tuple (dS ws.reverse))) m'
def C__law_bag : Ct := fun svs m Ψ => ∃ ns : List Int, svs = [.ro ns] ∧ m = [] ∧ ns.length ≤ 63 ∧ ∀ m' (b : Bag) i, WB 1000000 b → m'[i]? = some (some b.d) → Ψ (.own i) m'
def C__law_take : Ct := fun svs m Ψ => ∃ (b : Bag) (T : Nat) (many : Int), svs = [.own 0, .dat (.int many)] ∧ m = [some b.d] ∧ WB (T + 1) b ∧ 0 < many ∧ many < 2 ^ 40 ∧
  ∀ m' (v : Int) (b' : Bag), 0 ≤ v → v < many → WB T b' → m'[0]? = some (some b'.d) → Ψ (.dat (.int v)) m'
def C__law_some : Ct := fun svs m Ψ => ∃ (b : Bag) (T : Nat) (things : D) (ds : List D), svs = [.own 0, .dat things] ∧ m = [some b.d] ∧ WB (T + 1) b ∧ itemsD things = some ds ∧ ds ≠ [] ∧ ds.length < 1000000 ∧
  ∀ m' (d : D) (b' : Bag), d ∈ ds → WB T b' → m'[0]? = some (some b'.d) → Ψ (.dat d) m'
def C__law_mixed : Ct := fun svs m Ψ => ∃ (b : Bag) (T : Nat) (things : D) (ds : List D), svs = [.own 0, .dat things] ∧ m = [some b.d] ∧ WB (T + ds.length) b ∧ itemsD things = some ds ∧ ds.length < 1000000 ∧
  ∀ m' (es : List D) (b' : Bag), es.Perm ds → WB T b' → m'[0]? = some (some b'.d) → Ψ (.dat (.list es)) m'
/-- data that can be compared and told -/
structure Fine (d : D) : Prop where
  sh : SeqAt.shaped d = true
  fl : (∃ ds, d = .list ds) ∨ ∃ ds, d = .tuple ds
  sw : d.showable = true
  nd : d.hasDict = false
  dp : d.depth ≤ 60
  sz : d.shown.length ≤ sizeLine
def C__law_alike : Ct := fun svs m Ψ => ∃ d : D, svs = [.dat d, .dat d] ∧ m = [] ∧ (Fine d ∨ (∃ i : Int, d = .int i ∧ i.natAbs.log2 < 1920) ∨ (Sh d ∧ d.depth ≤ 40)) ∧ ∀ m', Ψ (.dat (.bool true)) m'
def C__law_names : Ct := fun svs m Ψ => ∃ (b : Bag) (T : Nat) (many : Nat), svs = [.own 0, .dat (.int (many : Int))] ∧ m = [some b.d] ∧ WB (T + 100) b ∧ 1 ≤ many ∧ many ≤ 9 ∧
  ∀ m' (xs : List Str) (b' : Bag), xs.length = many → NamesOk xs → xs.Nodup → WB T b' → m'[0]? = some (some b'.d) → Ψ (.dat (.list (dS xs))) m'
def C_law : Ct := fun svs m Ψ => ∃ ns : List Int, svs = [.ro ns] ∧ m = [] ∧ ns.length ≤ 63 ∧ ∀ m', Ψ (.dat (.bool true)) m'

/-! ### fleets -/
def dI (ns : List Int) : List D := ns.map .int
structure Fleet where
  names : List Str
  places : List Int
  row : List Str
def Fleet.d (F : Fleet) : D := .tuple [.tuple (dS F.names), .tuple (dI F.places), .tuple (dS F.row)]
structure FOk (F : Fleet) : Prop where
  n1 : 1 ≤ F.names.length
  n9 : F.names.length ≤ 9
  ok : NamesOk F.names
  nd : F.names.Nodup
  so : sortedS F.names = true
  pl : F.places.length = F.names.length
  pd : F.places.Nodup
  pr : ∀ p ∈ F.places, 0 ≤ p ∧ p ≤ F.names.length
  rw : ∀ x ∈ F.row, x ∈ F.names
  rl : F.row.length ≤ 60
/-- by sums -/
def freeOf (ps : List Int) : Int := (upTo 0 (ps.length + 1)).sum - ps.sum
/-- by sums, step by step -/
def stepP (names : List Str) (ps : List Int) (x : Str) : List Int := ps.set (names.idxOf x) (freeOf ps)
def afterP (F : Fleet) (word : List Str) : List Int := word.foldl (stepP F.names) F.places
/-- by exchanges -/
def stepQ (names : List Str) (st : List Int × Int) (x : Str) : List Int × Int := (st.1.set (names.idxOf x) st.2, st.1[names.idxOf x]?.getD 0)
def free0 (F : Fleet) : Int := ((List.range (F.names.length + 1)).map fun (i : Nat) => (i : Int)).filter (fun i => decide (i ∉ F.places)) |>.headD 0
def afterQ (F : Fleet) (word : List Str) : List Int × Int := word.foldl (stepQ F.names) (F.places, free0 F)
def WordOf (F : Fleet) (word : List Str) : Prop := ∀ x ∈ word, x ∈ F.names

def C__law_fleet : Ct := fun svs m Ψ => ∃ (b : Bag) (T many most : Nat), svs = [.own 0, .dat (.int (many : Int)), .dat (.int (most : Int))] ∧ m = [some b.d] ∧ WB (T + 300) b ∧ 1 ≤ many ∧ many ≤ 9 ∧ most ≤ 60 ∧
  ∀ m' (F : Fleet) (b' : Bag), FOk F → F.names.length = many → F.row.length ≤ most → WB T b' → m'[0]? = some (some b'.d) → Ψ (.dat F.d) m'
def C__law_wide : Ct := fun svs m Ψ => ∃ (b : Bag) (T : Nat), svs = [.own 0] ∧ m = [some b.d] ∧ WB (T + 302) b ∧
  ∀ m' (F : Fleet) (b' : Bag), FOk F → F.names.length ≤ 8 → 2 ≤ F.names.length → WB T b' → m'[0]? = some (some b'.d) → Ψ (.dat F.d) m'
/-- places in the row, ascending -/
structure PlanOk (F : Fleet) (p : List Int) : Prop where
  r : ∀ j ∈ p, 0 ≤ j ∧ j < F.row.length
  a : p.Pairwise (· < ·)
def C__law_plan : Ct := fun svs m Ψ => ∃ (b : Bag) (T : Nat) (F : Fleet), svs = [.own 0, .dat F.d] ∧ m = [some b.d] ∧ WB (T + 61) b ∧ FOk F ∧
  ∀ m' (p : List Int) (b' : Bag), PlanOk F p → WB T b' → m'[0]? = some (some b'.d) → Ψ (.dat (.tuple (dI p))) m'
/-- the hops ahead of a stretch -/
def hopsB (F : Fleet) (p : List Int) (k : Nat) : List Str := (p.filter fun j => decide (j < (k : Int))).map fun j => F.row.getD j.toNat ""
def C__law_vertex : Ct := fun svs m Ψ => ∃ (F : Fleet) (p : List Int) (k : Nat), svs = [.dat F.d, .dat (.tuple (dI p)), .dat (.int (k : Int))] ∧ m = [] ∧ FOk F ∧ PlanOk F p ∧ ∀ m', Ψ (.dat (.tuple (dS (redS (hopsB F p k))))) m'
def tabD (F : Fleet) (ps : List Int) : D := .dict (dk ((F.names.map Sum.inr).zip (dI ps)))
def C__law_stands : Ct := fun svs m Ψ => ∃ (F : Fleet) (p : List Int), svs = [.dat F.d, .dat (.tuple (dI p))] ∧ m = [] ∧ FOk F ∧ PlanOk F p ∧
  ∀ m', Ψ (.dat (.tuple [.list ((List.range (F.row.length + 1)).map fun k => tabD F (afterQ F (hopsB F p k)).1), .list ((List.range (F.row.length + 1)).map fun k => .int (afterQ F (hopsB F p k)).2)])) m'

/-! ### any data -/
def isS (names : List Str) : D → Bool
  | .str x => decide (x ∈ names)
  | _ => false
def C_size : Ct := fun svs m Ψ => ∃ F : Fleet, svs = [.dat F.d] ∧ m = [] ∧ ∀ m', Ψ (.dat (.int F.row.length)) m'
def C_hopping_before : Ct := fun svs m Ψ => ∃ (F : Fleet) (p : List Int) (k : Nat), svs = [.dat F.d, .dat (.tuple (dI p)), .dat (.int (k : Int))] ∧ m = [] ∧ FOk F ∧ PlanOk F p ∧ ∀ m', Ψ (.dat (.tuple (dS (hopsB F p k)))) m'
def C_vertex_in : Ct := C__law_vertex
end LW

namespace LW
open PySem PySem.Spec PyProof.Rows L2 SH
variable [WW]
def t_reduced (K : PySem.W.Frag) : TS :=
  (tSeq (tAsg (tLst tNil) (gName 1))
  (tSeq (tFor (iSeq K (tVar 0)) (gName 2)
    (tIfS (tAnd (tTru K (tVar 1)) (tTest (tOp (rEqU K) (tOp (rIxU K) (tVar 1) (tUn (rU fun i => .int (-i)) (tC (.int 1)))) (tVar 2))))
    (tDrop (tBM0 K "list" rPop (tVar 1)))
    (tDrop (tBM K "list" rAppend (tVar 1) (tCons (tVar 2) tNil)))))
  (tRet (tCB (rTupU K) (tCons (tVar 1) tNil)))))
def t_joined (K : PySem.W.Frag) : TS :=
  (tRet (tCall (spP K C_reduced) [] E0 (tCons (tOp (rAddU K) (tVar 0) (tVar 1)) tNil)))
def t_inverse (K : PySem.W.Frag) : TS :=
  (tRet (tRevU K (tVar 0)))
def t__law_bag (K : PySem.W.Frag) : TS :=
  (tRet (tLst (tCons (tC (.int 0)) (tCons (tC (.int 1234567891)) (tCons (tC (.int 0)) (tCons (tLc (iSeq K (tSl (rSlU K) (tVar 0) tNoPart (tPart (tC (.int 63))))) (gName 1) tYes (tCB (rAbs) (tCons (tVar 1) tNil)) [1]) tNil))))))
def t__law_take (K : PySem.W.Frag) : TS :=
  (tSeq (tIfS (tTest (tOp (rEqU K) (tOp (rIxU K) (tVar 0) (tC (.int 0))) (tC (.int 0))))
    (tSeq (tAsg (tOp (rIxU K) (tOp (rAddU K) (tSl (rSlU K) (tOp (rIxU K) (tVar 0) (tC (.int 3))) (tPart (tOp (rIxU K) (tVar 0) (tC (.int 2)))) tNoPart) (tLst (tCons (tC (.int 0)) tNil))) (tC (.int 0))) (gName 2))
  (tSeq (tAugS (tVar 0) (tC (.int 2)) (tC (.int 1)) (rIxL K) (ipI fun i j => i + j) rSetL)
  (tSeq (tIfS (tTest (tOp (rI0 fun i j => .bl (decide (j ≤ i))) (tVar 2) (tOp (rI CPow fun i j => .int (i ^ j.toNat)) (tC (.int 10)) (tC (.int 18)))))
    (tAsg (tVar 2) (gSub (tVar 0) (tC (.int 0)) rSetL))
    tNext)
  (tSeq (tAsg (tOp (rAddU K) (tOp (rAddU K) (tOp (rMulX K) (tOp (rIxU K) (tVar 0) (tC (.int 1))) (tC (.int 48271))) (tOp (rI (fun _ j => j ≠ 0) fun i j => .int (i.fmod j)) (tCB (rInt1) (tCons (tVar 2) tNil)) (tC (.int 2147483647)))) (tOp (rMulX K) (tC (.int 7919)) (tOp (rIxU K) (tVar 0) (tC (.int 2))))) (gName 3))
  (tAsg (tOp (rI (fun _ j => j ≠ 0) fun i j => .int (i.fmod j)) (tCB (rInt1) (tCons (tVar 3) tNil)) (tC (.int 2147483647))) (gSub (tVar 0) (tC (.int 1)) rSetL))))))
    tNext)
  (tSeq (tIfS (tTest (tOp (rI0 fun i j => .bl (decide (j < i))) (tOp (rIxU K) (tVar 0) (tC (.int 0))) (tC (.int 0))))
    (tSeq (tAsg (tOp (rI (fun _ j => j ≠ 0) fun i j => .int (i.fmod j)) (tCB (rInt1) (tCons (tOp (rIxU K) (tVar 0) (tC (.int 0))) tNil)) (tVar 1)) (gName 4))
  (tSeq (tAsg (tOp (rI CDivW fun i j => .int (i / j)) (tCB (rInt1) (tCons (tOp (rIxU K) (tVar 0) (tC (.int 0))) tNil)) (tVar 1)) (gSub (tVar 0) (tC (.int 0)) rSetL))
  (tRet (tVar 4))))
    tNext)
  (tSeq (tAsg (tOp (rI (fun _ j => j ≠ 0) fun i j => .int (i.fmod j)) (tCB (rInt1) (tCons (tOp (rMulX K) (tOp (rAddU K) (tOp (rIxU K) (tVar 0) (tC (.int 1))) (tC (.int 1))) (tC (.int 39373))) tNil)) (tC (.int 1000000007))) (gName 5))
  (tSeq (tAsg (tOp (rI (fun _ j => j ≠ 0) fun i j => .int (i.fmod j)) (tCB (rInt1) (tCons (tOp (rMulX K) (tOp (rI (fun _ j => j ≠ 0) fun i j => .int (i.fmod j)) (tCB (rInt1) (tCons (tOp (rMulX K) (tVar 5) (tVar 5)) tNil)) (tC (.int 998244353))) (tC (.int 30011))) tNil)) (tC (.int 998244353))) (gName 6))
  (tRet (tOp (rI (fun _ j => j ≠ 0) fun i j => .int (i.fmod j)) (tCB (rInt1) (tCons (tOp (rI CDivW fun i j => .int (i / j)) (tVar 6) (tC (.int 7))) tNil)) (tVar 1)))))))
def t__law_some (K : PySem.W.Frag) : TS :=
  (tRet (tOp (rIxU K) (tVar 1) (tCall (spP K C__law_take) [] E0 (tCons (tVar 0) (tCons (tCB (rLenU K) (tCons (tVar 1) tNil)) tNil)))))
def t__law_mixed (K : PySem.W.Frag) : TS :=
  (tSeq (tAsg (tLst tNil) (gName 2))
  (tSeq (tFor (iSeq K (tVar 1)) (gName 3)
    (tDrop (tBM K "list" rInsert (tVar 2) (tCons (tCall (spP K C__law_take) [] E0 (tCons (tVar 0) (tCons (tOp (rAddU K) (tCB (rLenU K) (tCons (tVar 2) tNil)) (tC (.int 1))) tNil))) (tCons (tVar 3) tNil)))))
  (tRet (tVar 2))))
def t__law_alike (K : PySem.W.Frag) : TS :=
  (tRet (tAndV (tOp (rEqU K) (tVar 0) (tVar 1)) (tOp (rEqU K) (tCB (rReprW K) (tCons (tVar 0) tNil)) (tCB (rReprW K) (tCons (tVar 1) tNil)))))
def t__law_fleet (K : PySem.W.Frag) : TS :=
  (tSeq (tPar 3 4 (tCons (tCB (rTupU K) (tCons (tCB (rSortX K) (tCons (tCall (spP K C__law_names) [] E0 (tCons (tVar 0) (tCons (tVar 1) tNil))) tNil)) tNil)) (tCons (tCall (spP K C__law_take) [] E0 (tCons (tVar 0) (tCons (tC (.int 5)) tNil))) tNil)))
  (tSeq (tAsg (tCB (rTupU K) (tCons (tSl (rSlU K) (tCall (spP K C__law_mixed) [] E0 (tCons (tVar 0) (tCons (tCB (rListW K) (tCons (tCB (rRng) (tCons (tOp (rAddU K) (tVar 1) (tC (.int 1))) tNil)) tNil)) tNil))) tNoPart (tPart (tVar 1))) tNil)) (gName 5))
  (tSeq (tPar 6 7 (tCons (tCB (rListW K) (tCons (tVar 3) tNil)) (tCons (tLst tNil) tNil)))
  (tSeq (tIfS (tAnd (tTest (tOp (rEqU K) (tVar 4) (tC (.int 1)))) (tTest (tOp (rI0 fun i j => .bl (decide (j < i))) (tVar 1) (tC (.int 1)))))
    (tDrop (tBM K "list" rPopAt (tVar 6) (tCons (tCall (spP K C__law_take) [] E0 (tCons (tVar 0) (tCons (tVar 1) tNil))) tNil)))
    tNext)
  (tSeq (tFor (iRng1 (tCons (tCall (spP K C__law_take) [] E0 (tCons (tVar 0) (tCons (tOp (rAddU K) (tVar 2) (tC (.int 1))) tNil))) tNil)) (gName 8)
    (tSeq (tIfS (tTest (tOp (rEqU K) (tVar 4) (tC (.int 2))))
    (tAsg (tOp (rIxU K) (tVar 6) (tOp (rI (fun _ j => j ≠ 0) fun i j => .int (i.fmod j)) (tCB (rInt1) (tCons (tVar 8) tNil)) (tCB (rLenU K) (tCons (tVar 6) tNil)))) (gName 9))
    (tIfS (tAnd (tTest (tOp (rEqU K) (tVar 4) (tC (.int 3)))) (tAnd (tTest (tOp (rNeU K) (tVar 7) (tLst tNil))) (tTest (tOp (rEqU K) (tCall (spP K C__law_take) [] E0 (tCons (tVar 0) (tCons (tC (.int 2)) tNil))) (tC (.int 0))))))
    (tAsg (tOp (rIxU K) (tVar 7) (tUn (rU fun i => .int (-i)) (tC (.int 1)))) (gName 9))
    (tAsg (tCall (spP K C__law_some) [] E0 (tCons (tVar 0) (tCons (tVar 6) tNil))) (gName 9))))
  (tDrop (tBM K "list" rAppend (tVar 7) (tCons (tVar 9) tNil)))))
  (tRet (tTupF (tCons (tVar 3) (tCons (tVar 5) (tCons (tCB (rTupU K) (tCons (tVar 7) tNil)) tNil))))))))))
def t__law_plan (K : PySem.W.Frag) : TS :=
  (tSeq (tAsg (tCall (spP K C__law_some) [] E0 (tCons (tVar 0) (tCons (tLst (tCons (tC (.int 1)) (tCons (tC (.int 0)) (tCons (tC (.int 2)) (tCons (tC (.int 3)) tNil))))) tNil))) (gName 2))
  (tRet (tCB (rTupU K) (tCons (tLc (iRng1 (tCons (tCB (rLenU K) (tCons (tOp (rIxU K) (tVar 1) (tC (.int 2))) tNil)) tNil)) (gName 3) (tTest (tOp (rI0 fun i j => .bl (decide (i ≤ j))) (tCall (spP K C__law_take) [] E0 (tCons (tVar 0) (tCons (tC (.int 4)) tNil))) (tVar 2))) (tVar 3) [3]) tNil))))
def t__law_stands (K : PySem.W.Frag) : TS :=
  (tSeq (tPar3 2 3 4 (tCons (tDictZip K (tCons (tOp (rIxU K) (tVar 0) (tC (.int 0))) (tCons (tOp (rIxU K) (tVar 0) (tC (.int 1))) tNil))) (tCons (tLst tNil) (tCons (tLst tNil) tNil))))
  (tSeq (tAsg (tOp (rIxU K) (tLc (iRng1 (tCons (tOp (rAddU K) (tCB (rLenU K) (tCons (tOp (rIxU K) (tVar 0) (tC (.int 0))) tNil)) (tC (.int 1))) tNil)) (gName 8) (tTest (tOp (rInX K true) (tVar 8) (tOp (rIxU K) (tVar 0) (tC (.int 1))))) (tVar 8) [8]) (tC (.int 0))) (gName 5))
  (tSeq (tFor (iRng1 (tCons (tOp (rAddU K) (tCB (rLenU K) (tCons (tOp (rIxU K) (tVar 0) (tC (.int 2))) tNil)) (tC (.int 1))) tNil)) (gName 6)
    (tSeq (tDrop (tBM K "list" rAppend (tVar 3) (tCons (tCB (rDictC) (tCons (tVar 2) tNil)) tNil)))
  (tSeq (tDrop (tBM K "list" rAppend (tVar 4) (tCons (tVar 5) tNil)))
  (tIfS (tTest (tOp (rInX K false) (tVar 6) (tVar 1)))
    (tSeq (tAsg (tOp (rIxU K) (tOp (rIxU K) (tVar 0) (tC (.int 2))) (tVar 6)) (gName 7))
  (tAsg (tTupF (tCons (tVar 5) (tCons (tOp (rIxU K) (tVar 2) (tVar 7)) tNil))) (gTup K 2 (gCons (gSub (tVar 2) (tVar 7) rSetU) (gCons (gName 5) gNil)))))
    tNext))))
  (tRet (tTupF (tCons (tVar 3) (tCons (tVar 4) tNil)))))))
def t__law_wide (K : PySem.W.Frag) : TS :=
  (tRet (tCall (spP K C__law_fleet) [] E0 (tCons (tVar 0) (tCons (tCall (spP K C__law_some) [] E0 (tCons (tVar 0) (tCons (tLst (tCons (tC (.int 3)) (tCons (tC (.int 5)) (tCons (tC (.int 8)) (tCons (tC (.int 2)) tNil))))) tNil))) (tCons (tCall (spP K C__law_some) [] E0 (tCons (tVar 0) (tCons (tLst (tCons (tC (.int 20)) (tCons (tC (.int 60)) (tCons (tC (.int 40)) tNil)))) tNil))) tNil)))))
def t_size (K : PySem.W.Frag) : TS :=
  (tRet (tCB (rLenU K) (tCons (tOp (rIxU K) (tVar 0) (tC (.int 2))) tNil)))
def t_hopping_before (K : PySem.W.Frag) : TS :=
  (tRet (tCB (rTupU K) (tCons (tLc (iSeq K (tVar 1)) (gName 3) (tTest (tOp (rI0 fun i j => .bl (decide (i < j))) (tVar 3) (tVar 2))) (tOp (rIxU K) (tOp (rIxU K) (tVar 0) (tC (.int 2))) (tVar 3)) [3]) tNil)))
def t_vertex_in (K : PySem.W.Frag) : TS :=
  (tRet (tCall (spP K C_reduced) [] E0 (tCons (tCall (spP K C_hopping_before) [] E0 (tCons (tVar 0) (tCons (tVar 1) (tCons (tVar 2) tNil)))) tNil)))
end LW

section

local macro_rules | `(tactic| walk_at "ev1") => `(tactic| first
  | (with_reducible refine SH.ex_seq ?_)
  | (with_reducible refine SH.ex_if ?_)
  | (with_reducible refine SH.ex_ret ?_)
  | (with_reducible refine SH.ex_drop ?_)
  | (with_reducible refine SH.ex_augS ?_)
  | (with_reducible refine SH.ex_put ?_)
  | ((with_reducible show SH.ExS _ _ _ (L2.tAsg _ (L2.gTup _ _ (L2.gCons (L2.gSub _ _ SH.rSetU) _))) _ _); refine SH.ex_asgT ?_)
  | ((with_reducible show SH.ExS _ _ _ (L2.tAsg _ (L2.gSub _ _ SH.rSetU)) _ _); refine SH.ex_asgT ?_)
  | (with_reducible refine SH.ex_asg ?_)
  | (with_reducible refine SH.ex_next ?_)
  | (with_reducible refine SH.ex_par ?_)
  | (with_reducible refine SH.ex_par3 ?_)
  | (with_reducible refine SH.ex_break ?_)
  | (with_reducible refine SH.ex_cont ?_)
  | (with_reducible refine SH.g_name ?_)
  | (with_reducible refine SH.gt_name ?_)
  | (with_reducible refine SH.gt_cons ?_)
  | (with_reducible refine SH.gt_nil ?_)
  | ((with_reducible refine SH.gt_tup (ds := ?shS) ?shA ?shB ?shD ?shC); (case shA => exact rfl); (case shB => exact rfl); (case shD => exact rfl))
  | (with_reducible refine SH.g_cons ?_)
  | (with_reducible refine SH.g_nil ?_)
  | ((with_reducible refine SH.g_tup (ds := ?shS) ?shA ?shB ?shD ?shC); (case shA => exact rfl); (case shB => exact rfl); (case shD => exact rfl))
  | (with_reducible refine SH.tt_test ?_)
  | (with_reducible refine SH.tt_tru ?_)
  | (with_reducible refine SH.tt_and ?_)
  | (with_reducible refine SH.tt_or ?_)
  | (with_reducible refine SH.tt_not ?_)
  | (with_reducible refine SH.tt_yes ?_)
  | (with_reducible refine SH.ev_int ?_)
  | (with_reducible refine SH.ev_str ?_)
  | (with_reducible refine SH.ev_bl ?_)
  | (with_reducible refine SH.ev_non ?_)
  | (with_reducible refine SH.ev_op ?_)
  | (with_reducible refine SH.ev_un ?_)
  | (with_reducible refine SH.ev_if ?_)
  | (with_reducible refine SH.ev_sl ?_)
  | (with_reducible refine SH.ev_cb ?_)
  | (with_reducible refine SH.ev_bmL ?_)
  | (with_reducible refine SH.ev_bmL0 ?_)
  | (with_reducible refine SH.ev_tupD ?_)
  | (with_reducible refine SH.ev_lstD ?_)
  | (with_reducible refine SH.ev_andV ?_)
  | (with_reducible refine SH.ev_join ?_)
  | (with_reducible refine SH.asD_dat ?_)
  | (with_reducible refine SH.ad_nil ?_)
  | (with_reducible refine SH.ad_cons ?_)
  | (with_reducible refine SH.ar_nil ?_)
  | (with_reducible refine SH.ar_cons ?_)
  | (with_reducible refine SH.pt_none ?_)
  | (with_reducible refine SH.pt_part ?_)
  | (with_reducible refine SH.it_range1 ?_)
  | (with_reducible refine SH.it_range2 ?_)
  | (with_reducible refine SH.it_seq ?_)
  | ((with_reducible refine SH.ev_var (sv := ?shS) ?shA ?shB ?shC); (case shA => exact rfl); (case shB => (intro z; cases z)))
  | ((with_reducible refine SH.ev_callBD (j := ?shS) ?shA ?shC); (case shA => exact rfl))
  | (with_reducible refine SH.ev_callD ?_)
  | ((with_reducible show ∃ shE1, SH.SV.dat (PySem.PyData.bool _) = SH.SV.dat (PySem.PyData.bool shE1) ∧ _); refine ⟨_, rfl, ?_⟩)
  | ((with_reducible show ∃ shE1, SH.SV.dat (PySem.PyData.int _) = SH.SV.dat (PySem.PyData.int shE1) ∧ _); refine ⟨_, rfl, ?_⟩)
  | ((with_reducible refine And.intro (a := _ ≤ PySem.sizeLine) ?shA ?shC); (case shA => (first | decide | (rw [PySem.sizeLine_eq]; simp only [List.length_cons, List.length_nil, List.length_append, List.length_map]; omega))))
  | ((with_reducible refine SH.asD_own (ds := ?shS) ?shA ?shC); (case shA => exact rfl))
  | ((with_reducible show SH.OpS _ _ (SH.rIxU _) _ _ _ _); first | refine SH.os_uL rfl rfl rfl ?_ | refine SH.os_uT rfl rfl rfl ?_)
  | ((with_reducible show SH.OpS _ _ (SH.rAddU _) _ _ _ _); first | refine SH.os_addI rfl rfl ?_ | (refine SH.os_addS rfl rfl ?_ ?_; rotate_left 1) | (refine SH.os_addL rfl rfl ?_ ?_; rotate_left 1) | (refine SH.os_addT rfl rfl ?_ ?_; rotate_left 1))
  | ((with_reducible show SH.OpS _ _ (SH.rMulX _) _ _ _ _); first | (refine SH.os_mxI rfl rfl ?_ ?_; rotate_left 1) | (refine SH.os_mxS rfl rfl ?_ ?_; rotate_left 1))
  | ((with_reducible show SH.OpS _ _ (SH.rEqU _) _ _ _ _); first | refine SH.os_eqI rfl rfl ?_ | refine SH.os_eqS rfl rfl ?_)
  | ((with_reducible show SH.OpS _ _ (SH.rNeU _) _ _ _ _); first | refine SH.os_neI rfl rfl ?_ | refine SH.os_neS rfl rfl ?_)
  | ((with_reducible show SH.OpS _ _ _ _ _ _ _); first | refine SH.os_lt rfl rfl ?_ | refine SH.os_le rfl rfl ?_ | refine SH.os_gt rfl rfl ?_ | refine SH.os_ge rfl rfl ?_ | refine SH.os_sub rfl rfl ?_ | (refine SH.os_mod rfl rfl (by decide) ?_) | (refine SH.os_mod rfl rfl ?_ ?_; rotate_left 1) | (refine SH.os_div rfl rfl (by decide) (by decide) ?_) | (refine SH.os_div rfl rfl ?_ ?_ ?_; rotate_left 2) | (refine SH.os_pow rfl rfl ?_ ?_; rotate_left 1))
  | ((with_reducible show SH.UnS _ _ _ _ _ _); first | refine SH.un_neg' rfl ?_)
  | ((with_reducible show SH.SlS _ _ _ _ _ _ _ _); first | refine SH.sl_L rfl ?_ | refine SH.sl_T rfl ?_ | (refine SH.sl_S rfl ?_ ?_; rotate_left 1) | refine SH.sl_ro rfl ?_)
  | ((with_reducible show SH.CbS _ _ _ _ _ _); first | refine SH.cb_lenL rfl ?_ | refine SH.cb_lenT rfl ?_ | (refine SH.cb_lenS rfl ?_ ?_; rotate_left 1) | refine SH.cb_abs rfl ?_ | refine SH.cb_int rfl ?_ | refine SH.cb_listWL rfl ?_ | refine SH.cb_listWT rfl ?_ | refine SH.cb_tupL rfl ?_ | refine SH.cb_tupT rfl ?_ | refine SH.cb_rng1 rfl ?_ | refine SH.cb_rng2 rfl rfl ?_))
local macro_rules | `(tactic| walk_at "ev") => `(tactic| repeat walk_at "ev1")
local macro_rules | `(tactic| walk_at "wk") => `(tactic| (repeat' first | exact trivial | exact Or.inl rfl | (refine And.intro ?_ ?_) | exact Or.inr rfl | (refine Or.inr ⟨rfl, ?_⟩; intro j e; first | (cases e; done) | (cases e; show _ < _; first | decide | simp))))
local macro_rules | `(tactic| walk_at "nrm") => `(tactic| dsimp only [SH.S.fz, SH.SV.fz, List.map, List.set, SH.wipeS, List.cons_append, List.nil_append, List.length_cons, List.length_nil, Nat.beq, List.replicate])
local macro_rules | `(tactic| walk_at "go") => `(tactic| (walk_at "ev"; (try walk_at "nrm"); walk_at "ev"; (try walk_at "nrm"); walk_at "ev"; (try walk_at "nrm")))

namespace LW
open PySem PySem.Spec PyProof.Rows L2 SH
variable [WW]

theorem small {n : Nat} (h : n ≤ 16777216) : n ≤ sizeLine := by rw [sizeLine_eq]; exact h
theorem wp_joined {K : PySem.W.Frag} : ∀ Zc svs m Ψ, C_joined svs m Ψ → ExS K Zc m.length (t_joined K) ⟨svs ++ List.replicate (2 - svs.length) .un, m⟩ (retE Ψ) := by
  refine NoI.keep (fun _ wNoI => ?_) ?_
  simp only [↓ NoI.wrOf wNoI (by
  clear wNoI
  rintro Zc _ _ Ψ ⟨ws, us, rfl, rfl, h1, h2, h3, k⟩
  unfold t_joined
  walk_at "ev"
  · refine ⟨ws ++ us, by simp [dS], rfl, fun x hx => ?_, by simpa using h3, fun m' => k _⟩
    rcases List.mem_append.mp hx with q | q
    · exact h1 x q
    · exact h2 x q
  · exact small (by simp [dS]; omega)
  )]
  intro _ hNoI
  simpa using (fun (_ : NoI.Sg) => hNoI) [5]
theorem push_names {ws : List Str} {x : Str} (h : NamesOk ws) (hx : NameOk x) : NamesOk (push ws x) := by
  refine NoI.keep (fun _ wNoI => ?_) ?_
  simp only [↓ NoI.wrOf wNoI (by
  clear wNoI
  intro y hy
  cases ws with
  | nil => simp [push] at hy; subst hy; exact hx
  | cons z zs =>
    simp only [push] at hy
    split at hy
    · exact h y (List.mem_cons_of_mem _ hy)
    · rcases List.mem_cons.mp hy with rfl | hy
      · exact hx
      · exact h y hy
  )]
  intro _ hNoI
  simpa using (fun (_ : NoI.Sg) => hNoI) [5]
theorem foldl_names : ∀ {ws st : List Str}, NamesOk ws → NamesOk st → NamesOk (ws.foldl push st)
  | [], _, _, h => h
  | w :: ws, st, h, h2 => foldl_names (ws := ws) (fun x hx => h x (List.mem_cons_of_mem _ hx)) (push_names h2 (h w List.mem_cons_self))
theorem stk_names {ws : List Str} (h : NamesOk ws) : NamesOk (stk ws) := foldl_names h fun x hx => by simp at hx
theorem push_len (ws : List Str) (x : Str) : (push ws x).length ≤ ws.length + 1 := by
  cases ws with
  | nil => simp [push]
  | cons z zs =>
    simp only [push]
    split <;> simp <;> omega
theorem foldl_len : ∀ (ws st : List Str), (ws.foldl push st).length ≤ st.length + ws.length
  | [], st => by simp
  | w :: ws, st => by
    have := foldl_len ws (push st w)
    have := push_len st w
    simp only [List.foldl_cons, List.length_cons]
    omega
theorem stk_len (ws : List Str) : (stk ws).length ≤ ws.length := by
  have := foldl_len ws []
  simpa [stk] using this
theorem stk_take {ws : List Str} {i : Nat} {x : Str} (h : ws[i]? = some x) : stk (ws.take (i + 1)) = push (stk (ws.take i)) x := by
  unfold stk
  rw [List.take_add_one, h]
  simp
theorem take_names {ws : List Str} (h : NamesOk ws) (i : Nat) : NamesOk (ws.take i) := fun x hx => h x (List.mem_of_mem_take hx)
theorem dS_at {ws : List Str} {i : Nat} {d : D} (hd : (dS ws)[i]? = some d) : ∃ x, ws[i]? = some x ∧ d = .str x := by
  simp only [dS, List.getElem?_map, Option.map_eq_some_iff] at hd
  obtain ⟨x, e1, e2⟩ := hd
  exact ⟨x, e1, e2.symm⟩
theorem wp_reduced {K : PySem.W.Frag} : ∀ Zc svs m Ψ, C_reduced svs m Ψ → ExS K Zc m.length (t_reduced K) ⟨svs ++ List.replicate (3 - svs.length) .un, m⟩ (retE Ψ) := by
  refine NoI.keep (fun _ wNoI => ?_) ?_
  simp only [↓ NoI.wrOf wNoI (by
  clear wNoI
  rintro Zc _ _ Ψ ⟨ws, rfl, rfl, h1, h2, k⟩
  unfold t_reduced
  walk_at "ev"
  walk_at "nrm"
  refine ex_for (it_seq ?_)
  walk_at "ev"
  refine ⟨_, rfl, fun i s => s = ⟨[.dat (.tuple (dS ws)), .own 0, .un], [some (.list (dS (stk (ws.take i)).reverse))]⟩, To.of _ rfl (by walk_at "wk") (by walk_at "wk") (Nat.zero_le _), ?_, ?_⟩
  · rintro i d _ hd rfl hn
    obtain ⟨x, hx, rfl⟩ := dS_at hd
    have nx : NameOk x := h1 x (List.mem_of_getElem? hx)
    have hs := stk_take hx
    have hl : (stk (ws.take i)).length ≤ 1000000 := by
      have := stk_len (ws.take i)
      rw [List.length_take] at this
      omega
    have ns := stk_names (take_names h1 i)
    dsimp only
    rw [hs]
    generalize stk (ws.take i) = st at hl ns
    clear hd hs hn
    walk_at "ev"
    walk_at "nrm"
    refine ⟨_, _, rfl, rfl, by nofun, fun hb => ?_, fun hb => ⟨by nofun, fun _ => ?_⟩⟩
    · cases st with
      | nil => simp [dS] at hb
      | cons y ys =>
        have e : dS (y :: ys).reverse = dS ys.reverse ++ [.str y] := by simp [dS]
        rw [e]
        walk_at "ev"
        refine os_uL rfl rfl (atI_last _ _) ?_
        walk_at "ev"
        refine ⟨fun e2 => ?_, fun e2 => ?_⟩
        · have e2 : y = x := of_decide_eq_true e2
          walk_at "ev"
          refine ⟨⟨_, rfl⟩, mt_popS rfl (d := .str y) (by simp) ?_⟩
          walk_at "nrm"
          refine To.of _ rfl (by walk_at "wk") ?_ (Nat.zero_le _)
          simp [WkMs, push, e2, dS]
        · have e2 : ¬ y = x := of_decide_eq_false e2
          walk_at "ev"
          refine ⟨⟨_, rfl⟩, ?_⟩
          walk_at "ev"
          refine mt_appendS rfl (small (by simp [dS] at hl ⊢; omega)) ?_
          walk_at "nrm"
          refine To.of _ rfl (by walk_at "wk") ?_ (Nat.zero_le _)
          simp [WkMs, push, e2, dS]
    · cases st with
      | cons y ys => simp [dS] at hb
      | nil =>
        walk_at "ev"
        refine ⟨⟨_, rfl⟩, ?_⟩
        walk_at "ev"
        refine mt_appendS rfl (small (by simp [dS])) ?_
        walk_at "nrm"
        exact To.of _ rfl (by walk_at "wk") (by simp [WkMs, push, dS]) (Nat.zero_le _)
  · rintro _ rfl hn
    have e : stk (ws.take (dS ws).length) = stk ws := by
      rw [List.take_of_length_le (by simp [dS])]
    rw [e]
    walk_at "ev"
    exact k _
  )]
  intro _ hNoI
  simpa using (fun (_ : NoI.Sg) => hNoI) [5]
theorem wp_inverse {K : PySem.W.Frag} : ∀ Zc svs m Ψ, C_inverse svs m Ψ → ExS K Zc m.length (t_inverse K) ⟨svs ++ List.replicate (1 - svs.length) .un, m⟩ (retE Ψ) := by
  refine NoI.keep (fun _ wNoI => ?_) ?_
  simp only [↓ NoI.wrOf wNoI (by
  clear wNoI
  rintro Zc _ _ Ψ ⟨ws, rfl, rfl, k⟩
  unfold t_inverse
  walk_at "ev"
  refine ev_revT ?_
  walk_at "ev"
  refine ⟨_, rfl, ?_⟩
  have := k []
  rw [show dS ws.reverse = (dS ws).reverse from List.map_reverse] at this
  exact this
  )]
  intro _ hNoI
  simpa using (fun (_ : NoI.Sg) => hNoI) [5]
theorem mul62 {i j : Int} (h : -4611686018427387904 < i ∧ i < 4611686018427387904 ∧ -4611686018427387904 < j ∧ j < 4611686018427387904) : CMulW i j :=
  wide_mul (a := 62) (b := 62) (by omega) (by omega) (by decide) (by decide) (by decide)
theorem cells_head {cells : List Int} {k : Nat} (h : ∀ x ∈ cells, 0 ≤ x) : ∃ x : Int, 0 ≤ x ∧ atI (SH.cutD (cells.map PyData.int) (some (k : Int)) none ++ [PyData.int 0]) 0 = some (.int x) := by
  refine NoI.keep (fun _ wNoI => ?_) ?_
  simp only [↓ NoI.wrOf wNoI (by
  clear wNoI
  have e : SH.cutD (cells.map PyData.int) (some (k : Int)) none = (cells.drop (min k cells.length)).map PyData.int := by
    unfold SH.cutD
    rw [HT.sIx_nat, HT.sIx_none, List.length_map, List.map_drop, List.take_of_length_le (by simp)]
  rw [e]
  cases q : cells.drop (min k cells.length) with
  | nil => exact ⟨0, Int.le_refl _, rfl⟩
  | cons x r => exact ⟨x, h x (List.mem_of_mem_drop (by rw [q]; exact List.mem_cons_self)), atI_nat (j := 0) rfl⟩
  )]
  intro _ hNoI
  simpa using (fun (_ : NoI.Sg) => hNoI) [5]
theorem wp__law_take {K : PySem.W.Frag} : ∀ Zc svs m Ψ, C__law_take svs m Ψ → ExS K Zc m.length (t__law_take K) ⟨svs ++ List.replicate (7 - svs.length) .un, m⟩ (retE Ψ) := by
  refine NoI.keep (fun _ wNoI => ?_) ?_
  simp only [↓ NoI.wrOf wNoI (by
  clear wNoI
  rintro Zc _ _ Ψ ⟨b, T, many, rfl, rfl, hw, m0, m1, k⟩
  unfold t__law_take
  refine ex_cut (fun s => ∃ b' : Bag, WB T b' ∧ s = ⟨[.own 0, .dat (.int many), .un, .un, .un, .un, .un], [some b'.d]⟩) ?_ ?_
  · obtain ⟨a, c, j, cells⟩ := b
    obtain ⟨a0, c0, c1, k1, ce, cl⟩ := hw
    dsimp only at a0 c0 c1 k1 ce cl
    dsimp only [Bag.d]
    walk_at "ev"
    refine ⟨fun h => ?_, fun h => ?_⟩
    · walk_at "ev"
      obtain ⟨x, x0, hx⟩ := cells_head (k := j) ce
      refine os_uL rfl rfl hx ?_
      walk_at "ev"
      refine ⟨0, _, 2, j, rfl, rfl, rfl, rfl, ?_⟩
      walk_at "ev"
      refine ⟨1, 2, _, rfl, rfl, rfl, ?_⟩
      walk_at "nrm"
      refine ex_cut (fun s => ∃ a' : Int, 0 ≤ a' ∧ s = ⟨[.own 0, .dat (.int many), .dat (.int x), .un, .un, .un, .un], [some (.list [.int a', .int c, .int ((j : Int) + 1), .list (cells.map .int)])]⟩) ?_ ?_
      · walk_at "ev"
        refine ⟨fun h => ?_, fun h => ?_⟩
        · walk_at "ev"
          refine ⟨0, _, 0, 0, rfl, rfl, rfl, rfl, ?_⟩
          walk_at "nrm"
          exact To.of _ ⟨x, x0, rfl⟩ (by walk_at "wk") (by walk_at "wk") (by simp)
        · walk_at "ev"
          walk_at "nrm"
          exact To.of _ ⟨a, a0, rfl⟩ (by walk_at "wk") (by walk_at "wk") (by simp)
        · exact ⟨by decide, by decide, by decide⟩
      · rintro _ ⟨a', ha, rfl⟩ _
        walk_at "ev"
        refine ⟨0, _, 1, 1, rfl, rfl, rfl, rfl, ?_⟩
        walk_at "nrm"
        refine To.of _ ⟨⟨a', (c * 48271 + x % 2147483647 + 7919 * ((j : Int) + 1)) % 2147483647, j + 1, cells⟩, ⟨ha, by dsimp only; omega, by dsimp only; omega, by dsimp only; omega, ce, cl⟩, rfl⟩ (by walk_at "wk") (by walk_at "wk") (by simp)
        all_goals first | decide | exact mul62 (by omega)
      · have : (SH.cutD (cells.map PyData.int) (some (j : Int)) none).length ≤ cells.length := by
          unfold SH.cutD
          simp only [List.length_take, List.length_drop, List.length_map]
          omega
        exact small (by simp only [List.length_cons, List.length_nil]; omega)
    · walk_at "ev"
      walk_at "nrm"
      exact To.of _ ⟨⟨a, c, j, cells⟩, ⟨a0, c0, c1, by dsimp only; omega, ce, cl⟩, rfl⟩ (by walk_at "wk") (by walk_at "wk") (by simp)
  · rintro _ ⟨⟨a, c, j, cells⟩, hw, rfl⟩ hn
    obtain ⟨a0, c0, c1, k1, ce, cl⟩ := hw
    dsimp only at a0 c0 c1 k1 ce cl
    dsimp only [Bag.d]
    refine ex_cut (fun s => s = ⟨[.own 0, .dat (.int many), .un, .un, .un, .un, .un], [some (.list [.int a, .int c, .int (j : Int), .list (cells.map .int)])]⟩) ?_ ?_
    · walk_at "ev"
      refine ⟨fun h => ?_, fun h => ?_⟩
      · walk_at "ev"
        refine ⟨0, _, 0, 0, rfl, rfl, rfl, rfl, ?_⟩
        walk_at "ev"
        refine k _ (a % many) ⟨a / many, c, j, cells⟩ (Int.emod_nonneg _ (by omega)) (Int.emod_lt_of_pos _ m0) ⟨Int.ediv_nonneg a0 (by omega), c0, c1, k1, ce, cl⟩ rfl
        all_goals first | omega | exact mul62 (by omega)
      · walk_at "ev"
        exact To.of _ rfl (by walk_at "wk") (by walk_at "wk") (by simp)
    · rintro _ rfl _
      walk_at "ev"
      refine k _ _ ⟨a, c, j, cells⟩ (Int.emod_nonneg _ (by omega)) (Int.emod_lt_of_pos _ m0) ⟨a0, c0, c1, k1, ce, cl⟩ rfl
      all_goals first | omega | exact mul62 (by omega)
  )]
  intro _ hNoI
  simpa using (fun (_ : NoI.Sg) => hNoI) [5]
end LW

namespace LW
open PySem PySem.Spec PyProof.Rows L2 SH
variable [WW]

theorem wp__law_bag {K : PySem.W.Frag} : ∀ Zc svs m Ψ, C__law_bag svs m Ψ → ExS K Zc m.length (t__law_bag K) ⟨svs ++ List.replicate (2 - svs.length) .un, m⟩ (retE Ψ) := by
  refine NoI.keep (fun _ wNoI => ?_) ?_
  simp only [↓ NoI.wrOf wNoI (by
  clear wNoI
  rintro Zc _ _ Ψ ⟨ns, rfl, rfl, h1, k⟩
  unfold t__law_bag
  walk_at "ev"
  refine ev_lc gw_name (it_seq ?_)
  walk_at "ev"
  have e : SH.cutD (ns.map PyData.int) none (some 63) = ns.map PyData.int := by
    unfold SH.cutD
    rw [show (63 : Int) = ((63 : Nat) : Int) from rfl, HT.sIx_nat, HT.sIx_none, List.drop_zero, List.take_of_length_le (by simp; omega)]
  rw [e]
  walk_at "nrm"
  refine ⟨_, rfl, fun i s => s = ⟨[.ro ns, .un], [none, some (.list ((ns.take i).map fun x => .int (if x < 0 then -x else x)))]⟩, rfl, ?_, ?_⟩
  · rintro i d _ hd rfl hl
    obtain ⟨x, hx, rfl⟩ : ∃ x, ns[i]? = some x ∧ d = .int x := by
      simp only [List.getElem?_map, Option.map_eq_some_iff] at hd
      obtain ⟨x, e1, e2⟩ := hd
      exact ⟨x, e1, e2.symm⟩
    walk_at "ev"
    refine ⟨fun _ => ?_, fun h => by cases h⟩
    walk_at "ev"
    refine ⟨_, rfl, small (by simp; omega), ?_⟩
    walk_at "nrm"
    refine To.of _ rfl (by walk_at "wk") ?_ (by simp)
    simp [WkMs, List.take_add_one, hx]
  · rintro _ rfl
    walk_at "ev"
    refine k _ ⟨0, 1234567891, 0, ns.map fun x => if x < 0 then -x else x⟩ _ ⟨Int.le_refl _, (by decide : (0 : Int) ≤ 1234567891), (by decide : (1234567891 : Int) < 2147483647), Nat.le_of_eq (Nat.zero_add _), ?_, by simpa using h1⟩ ?_
    · intro x hx
      obtain ⟨y, _, rfl⟩ := List.mem_map.mp hx
      split <;> omega
    · simp [Bag.d]
  )]
  intro _ hNoI
  simpa using (fun (_ : NoI.Sg) => hNoI) [5]
section
variable {K : PySem.W.Frag} {Zc : Addr → Prop} {s : S} {x y : SV} {Φ : SV → S → Prop}
theorem cb_lenI {d : D} {ds : List D} (h1 : rd s.mem x = some d) (hi : itemsD d = some ds) (hz : ds.length ≤ sizeLine) (k : Φ (.dat (.int ds.length)) s) : CbS K Zc (rLenU K) [x] s Φ := by
  refine NoI.keep (fun _ wNoI => ?_) ?_
  simp only [↓ NoI.wrOf wNoI (by
  clear wNoI
  cases d with
  | list es => cases hi; exact cb_lenL h1 k
  | tuple es => cases hi; exact cb_lenT h1 k
  | str z =>
    cases hi
    have e : (strD z).length = z.length := by simp [strD]; rfl
    rw [e] at hz k
    exact cb_lenS h1 hz k
  | none => cases hi
  | bool _ => cases hi
  | int _ => cases hi
  | dict _ => cases hi
  )]
  intro _ hNoI
  simpa using (fun (_ : NoI.Sg) => hNoI) [5]
theorem os_ixI {d e : D} {ds : List D} {i : Int} (h1 : rd s.mem x = some d) (h2 : rd s.mem y = some (.int i)) (hi : itemsD d = some ds) (hz : ds.length ≤ sizeLine) (he : atI ds i = some e) (k : Φ (.dat e) s) : OpS K Zc (rIxU K) x y s Φ := by
  refine NoI.keep (fun _ wNoI => ?_) ?_
  simp only [↓ NoI.wrOf wNoI (by
  clear wNoI
  cases d with
  | list es => cases hi; exact os_uL h1 h2 he k
  | tuple es => cases hi; exact os_uT h1 h2 he k
  | str z =>
    cases hi
    have el : (strD z).length = z.length := by simp [strD]; rfl
    rw [el] at hz
    unfold atI at he
    cases q : ixN (strD z).length i with
    | none => rw [q] at he; cases he
    | some j =>
      rw [q] at he
      simp only [Option.bind_some, strD, List.getElem?_map, Option.map_eq_some_iff] at he
      obtain ⟨c, hc, rfl⟩ := he
      refine os_uS h1 h2 hz (c := c) ?_ k
      unfold atI
      rw [show z.cps.toList.length = (strD z).length by simp [strD], q]
      exact hc
  | none => cases hi
  | bool _ => cases hi
  | int _ => cases hi
  | dict _ => cases hi
  )]
  intro _ hNoI
  simpa using (fun (_ : NoI.Sg) => hNoI) [5]
end
theorem atI_lt {ds : List D} {v : Int} (h0 : 0 ≤ v) (h1 : v < ds.length) : ∃ d, atI ds v = some d ∧ d ∈ ds := by
  refine NoI.keep (fun _ wNoI => ?_) ?_
  simp only [↓ NoI.wrOf wNoI (by
  clear wNoI
  obtain ⟨j, rfl⟩ := Int.eq_ofNat_of_zero_le h0
  have hj : j < ds.length := by omega
  exact ⟨ds[j], atI_nat (List.getElem?_eq_getElem hj), List.getElem_mem hj⟩
  )]
  intro _ hNoI
  simpa using (fun (_ : NoI.Sg) => hNoI) [5]
theorem wp__law_some {K : PySem.W.Frag} : ∀ Zc svs m Ψ, C__law_some svs m Ψ → ExS K Zc m.length (t__law_some K) ⟨svs ++ List.replicate (2 - svs.length) .un, m⟩ (retE Ψ) := by
  refine NoI.keep (fun _ wNoI => ?_) ?_
  simp only [↓ NoI.wrOf wNoI (by
  clear wNoI
  rintro Zc _ _ Ψ ⟨b, T, things, ds, rfl, rfl, hw, hi, hne, hl, k⟩
  unfold t__law_some
  have h0 : 0 < ds.length := List.length_pos_iff.mpr hne
  walk_at "ev"
  refine cb_lenI rfl hi (small (by omega)) ?_
  walk_at "ev"
  refine ⟨_, rfl, b, T, ds.length, rfl, rfl, hw, by omega, by omega, fun m' v b' v0 v1 hw' hm => ⟨_, _, rfl, hm, ?_⟩⟩
  obtain ⟨d, hd, hm'⟩ := atI_lt v0 v1
  refine os_ixI rfl rfl hi (small (by omega)) hd ?_
  exact k _ d b' hm' hw' rfl
  )]
  intro _ hNoI
  simpa using (fun (_ : NoI.Sg) => hNoI) [5]
theorem wp__law_mixed {K : PySem.W.Frag} : ∀ Zc svs m Ψ, C__law_mixed svs m Ψ → ExS K Zc m.length (t__law_mixed K) ⟨svs ++ List.replicate (4 - svs.length) .un, m⟩ (retE Ψ) := by
  refine NoI.keep (fun _ wNoI => ?_) ?_
  simp only [↓ NoI.wrOf wNoI (by
  clear wNoI
  rintro Zc _ _ Ψ ⟨b, T, things, ds, rfl, rfl, hw, hi, hl, k⟩
  unfold t__law_mixed
  walk_at "ev"
  walk_at "nrm"
  refine ex_for (it_seq ?_)
  walk_at "ev"
  refine ⟨_, hi, fun i s => ∃ (b' : Bag) (es : List D), es.Perm (ds.take i) ∧ WB (T + (ds.length - i)) b' ∧ s = ⟨[.own 0, .dat things, .own 1, .un], [some b'.d, some (.list es)]⟩, To.of _ ⟨b, [], by simp, by simpa using hw, rfl⟩ (by walk_at "wk") (by walk_at "wk") (by simp), ?_, ?_⟩
  · rintro i d _ hd ⟨b', es, hp, hw', rfl⟩ hn
    have hi' : i < ds.length := (List.getElem?_eq_some_iff.mp hd).1
    have hl' : es.length = i := by rw [hp.length_eq, List.length_take]; omega
    walk_at "ev"
    refine ⟨⟨_, rfl⟩, ?_⟩
    walk_at "ev"
    refine ⟨_, rfl, b', T + (ds.length - (i + 1)), _, rfl, rfl, hw'.less (by omega), by omega, by omega, fun m' v b2 v0 v1 hw2 hm => ⟨_, _, rfl, hm, ?_⟩⟩
    walk_at "nrm"
    walk_at "ev"
    refine mt_insertS rfl (Nat.lt_of_lt_of_le (by omega : es.length < 1000000) (small (by omega))) v0 (by omega) ?_
    walk_at "nrm"
    refine To.of _ ⟨b2, es.take v.toNat ++ [d] ++ es.drop v.toNat, ?_, hw2, rfl⟩ (by walk_at "wk") (by walk_at "wk") (by simp)
    rw [List.take_add_one, hd]
    refine List.Perm.trans ?_ (List.Perm.append_right _ hp)
    rw [List.append_assoc]
    refine (List.perm_append_comm_assoc _ _ _).trans ?_
    rw [List.take_append_drop]
    exact List.perm_append_comm
  · rintro _ ⟨b', es, hp, hw', rfl⟩ hn
    refine ex_ret (ev_D ?_)
    walk_at "ev"
    rw [List.take_length] at hp
    exact k _ es b' hp (by simpa using hw') rfl
  )]
  intro _ hNoI
  simpa using (fun (_ : NoI.Sg) => hNoI) [5]
theorem wp__law_alike {K : PySem.W.Frag} : ∀ Zc svs m Ψ, C__law_alike svs m Ψ → ExS K Zc m.length (t__law_alike K) ⟨svs ++ List.replicate (2 - svs.length) .un, m⟩ (retE Ψ) := by
  refine NoI.keep (fun _ wNoI => ?_) ?_
  simp only [↓ NoI.wrOf wNoI (by
  clear wNoI
  rintro Zc _ _ Ψ ⟨d, rfl, rfl, hf | ⟨i, rfl, hi⟩ | ⟨hf, hd⟩, k⟩
  · unfold t__law_alike
    walk_at "ev"
    refine os_eqB rfl rfl hf.sh hf.sh (PySem.SeqAt.eqv_refl d (SeqAt.canLay_of_shaped hf.sh)) ?_
    walk_at "ev"
    refine ⟨fun _ => ?_, fun h => by cases h⟩
    walk_at "ev"
    refine cb_reprX rfl hf.fl hf.sw hf.nd hf.dp hf.sz ?_
    walk_at "ev"
    refine cb_reprX rfl hf.fl hf.sw hf.nd hf.dp hf.sz ?_
    walk_at "ev"
    rw [decide_eq_true rfl]
    exact k _
  · unfold t__law_alike
    walk_at "ev"
    refine ⟨fun _ => ?_, fun h => by simp at h⟩
    walk_at "ev"
    refine cb_reprI rfl hi ?_
    walk_at "ev"
    refine cb_reprI rfl hi ?_
    walk_at "ev"
    rw [decide_eq_true rfl]
    exact k _
  · unfold t__law_alike
    walk_at "ev"
    refine os_eqV (d := d) rfl rfl hd ?_
    walk_at "ev"
    refine ⟨fun _ => ?_, fun h => by cases h⟩
    walk_at "ev"
    refine cb_reprV rfl hf hd ?_
    walk_at "ev"
    refine cb_reprV rfl hf hd ?_
    walk_at "ev"
    rw [decide_eq_true rfl]
    exact k _
  )]
  intro _ hNoI
  simpa using (fun (_ : NoI.Sg) => hNoI) [5]
end LW

namespace LW
open PySem PySem.Spec PyProof.Rows L2 SH
variable [WW]

/-! ### the calls of the bag's defs, in one step each -/
section
variable {sl : List SV} {mem : Mem} {Φ : SV → S → Prop} {j : Nat} {b : Bag} {T : Nat}
theorem use_take {many : Int} (hm : mem[j]? = some (some b.d)) (hw : WB (T + 1) b) (m0 : 0 < many) (m1 : many < 2 ^ 40) (k : ∀ (v : Int) (b' : Bag), 0 ≤ v → v < many → WB T b' → Φ (.dat (.int v)) ⟨sl, mem.set j (some b'.d)⟩) :
    ∃ bs, mem[j]? = some (some bs) ∧ C__law_take (.own 0 :: [PyData.int many].map SV.dat) [some bs] (backB ⟨sl, mem⟩ j Φ) :=
  ⟨_, hm, b, T, many, rfl, rfl, hw, m0, m1, fun m' v b' v0 v1 hw' hm' => ⟨_, _, rfl, hm', k v b' v0 v1 hw'⟩⟩
theorem use_some {things : D} {ds : List D} (hm : mem[j]? = some (some b.d)) (hw : WB (T + 1) b) (hi : itemsD things = some ds) (hn : ds ≠ []) (hl : ds.length < 1000000) (k : ∀ (d : D) (b' : Bag), d ∈ ds → WB T b' → Φ (.dat d) ⟨sl, mem.set j (some b'.d)⟩) :
    ∃ bs, mem[j]? = some (some bs) ∧ C__law_some (.own 0 :: [things].map SV.dat) [some bs] (backB ⟨sl, mem⟩ j Φ) :=
  ⟨_, hm, b, T, things, ds, rfl, rfl, hw, hi, hn, hl, fun m' v b' v0 hw' hm' => ⟨_, _, rfl, hm', k v b' v0 hw'⟩⟩
theorem use_mixed {things : D} {ds : List D} (hm : mem[j]? = some (some b.d)) (hw : WB (T + ds.length) b) (hi : itemsD things = some ds) (hl : ds.length < 1000000) (k : ∀ (es : List D) (b' : Bag), es.Perm ds → WB T b' → Φ (.dat (.list es)) ⟨sl, mem.set j (some b'.d)⟩) :
    ∃ bs, mem[j]? = some (some bs) ∧ C__law_mixed (.own 0 :: [things].map SV.dat) [some bs] (backB ⟨sl, mem⟩ j Φ) :=
  ⟨_, hm, b, T, things, ds, rfl, rfl, hw, hi, hl, fun m' v b' v0 hw' hm' => ⟨_, _, rfl, hm', k v b' v0 hw'⟩⟩
end
/-! ### letters -/
abbrev letters : Str := "abcdefghijklmnopqrstuvwxyz"
theorem letters_len : letters.cps.toList.length = 26 := by decide +kernel
theorem letters_ok : ∀ c ∈ letters.cps.toList, 97 ≤ c ∧ c ≤ 122 := by decide +kernel
def lt (v : Int) : Nat := letters.cps.toList.getD v.toNat 0
theorem lt_at {v : Int} (h0 : 0 ≤ v) (h1 : v < 26) : atI letters.cps.toList v = some (lt v) ∧ 97 ≤ lt v ∧ lt v ≤ 122 := by
  refine NoI.keep (fun _ wNoI => ?_) ?_
  simp only [↓ NoI.wrOf wNoI (by
  clear wNoI
  obtain ⟨j, rfl⟩ := Int.eq_ofNat_of_zero_le h0
  have hj : j < letters.cps.toList.length := by rw [letters_len]; omega
  have e : lt (j : Int) = letters.cps.toList[j] := by
    unfold lt
    rw [Int.toNat_natCast, List.getD_eq_getElem?_getD, List.getElem?_eq_getElem hj]
    rfl
  rw [e]
  exact ⟨atI_nat (List.getElem?_eq_getElem hj), letters_ok _ (List.getElem_mem hj)⟩
  )]
  intro _ hNoI
  simpa using (fun (_ : NoI.Sg) => hNoI) [5]
theorem rangeD_at {n k : Nat} {d : D} (h : (rangeD 0 n)[k]? = some d) : k < n ∧ d = .int (k : Int) := by
  refine NoI.keep (fun _ wNoI => ?_) ?_
  simp only [↓ NoI.wrOf wNoI (by
  clear wNoI
  simp only [rangeD, List.getElem?_map, Option.map_eq_some_iff] at h
  obtain ⟨i, h1, h2⟩ := h
  obtain ⟨h3, h4⟩ := List.getElem?_eq_some_iff.mp h1
  simp at h3 h4
  subst h4
  exact ⟨h3, by rw [← h2, Int.zero_add]⟩
  )]
  intro _ hNoI
  simpa using (fun (_ : NoI.Sg) => hNoI) [5]
theorem perm_strs {es : List D} {xs : List Str} (h : es.Perm (dS xs)) : ∃ ys : List Str, es = dS ys ∧ ys.Perm xs := by
  refine NoI.keep (fun _ wNoI => ?_) ?_
  simp only [↓ NoI.wrOf wNoI (by
  clear wNoI
  let un : D → Option Str := fun d => match d with
    | .str x => some x
    | _ => none
  have hx : ∀ zs : List Str, (dS zs).filterMap un = zs := by
    intro zs
    induction zs with
    | nil => rfl
    | cons z zs ih =>
      show ((.str z : D) :: dS zs).filterMap un = z :: zs
      rw [List.filterMap_cons, ih]
  have hm : ∀ d ∈ es, ∃ x, d = .str x := fun d hd => by
    obtain ⟨x, _, rfl⟩ := List.mem_map.mp (h.mem_iff.mp hd)
    exact ⟨x, rfl⟩
  refine ⟨es.filterMap un, ?_, ?_⟩
  · clear h
    induction es with
    | nil => rfl
    | cons d es ih =>
      obtain ⟨x, rfl⟩ := hm d List.mem_cons_self
      show _ = dS (((.str x : D) :: es).filterMap un)
      rw [List.filterMap_cons]
      show _ = (.str x : D) :: dS (es.filterMap un)
      rw [← ih fun d hd => hm d (List.mem_cons_of_mem _ hd)]
  · have := h.filterMap un
    rwa [hx] at this
  )]
  intro _ hNoI
  simpa using (fun (_ : NoI.Sg) => hNoI) [5]
theorem name_one {c : Nat} (h : 97 ≤ c ∧ c ≤ 122) : NameOk ⟨#[c]⟩ := ⟨fun x hx => by simp at hx; subst hx; exact h, by show 1 ≤ 12; decide⟩
/-- short words of letters -/
def Short (n : Nat) (x : Str) : Prop := (∀ c ∈ x.cps.toList, 97 ≤ c ∧ c ≤ 122) ∧ x.length ≤ n
theorem short_add {n k : Nat} {x y : Str} (h1 : Short n x) (h2 : Short k y) : Short (n + k) (x ++ y) := by
  refine NoI.keep (fun _ wNoI => ?_) ?_
  simp only [↓ NoI.wrOf wNoI (by
  clear wNoI
  have e : (x ++ y).cps = x.cps ++ y.cps := rfl
  refine ⟨fun c hc => ?_, ?_⟩
  · rw [e, Array.toList_append, List.mem_append] at hc
    exact hc.elim (h1.1 c) (h2.1 c)
  · have := h1.2
    have := h2.2
    show (x ++ y).cps.size ≤ _
    rw [e, Array.size_append]
    show x.length + y.length ≤ _
    omega
  )]
  intro _ hNoI
  simpa using (fun (_ : NoI.Sg) => hNoI) [5]
theorem join_toList : ∀ ys : List Str, (Txt.join "" ys).cps.toList = (ys.map fun y => y.cps.toList).flatten := by
  refine NoI.keep (fun _ wNoI => ?_) ?_
  simp only [↓ NoI.wrOf wNoI (by
  clear wNoI
  have go : ∀ (ys : List Str) (acc : Array Nat), (ys.foldl (fun acc p => acc ++ (Str.ofString "").cps ++ p.cps) acc).toList = acc.toList ++ (ys.map fun y => y.cps.toList).flatten := by
    intro ys
    induction ys with
    | nil => intro acc; simp
    | cons y ys ih =>
      intro acc
      rw [List.foldl_cons, ih]
      have : (Str.ofString "").cps.toList = [] := by decide
      simp [this]
  intro ys
  cases ys with
  | nil => decide
  | cons y ys => exact go ys y.cps
  )]
  intro _ hNoI
  simpa using (fun (_ : NoI.Sg) => hNoI) [5]
theorem short_join {ys : List Str} {n : Nat} (h : ∀ y ∈ ys, Short 1 y) (hn : ys.length ≤ n) : Short n (Txt.join "" ys) := by
  refine NoI.keep (fun _ wNoI => ?_) ?_
  simp only [↓ NoI.wrOf wNoI (by
  clear wNoI
  have e := join_toList ys
  refine ⟨fun c hc => ?_, ?_⟩
  · rw [e] at hc
    obtain ⟨l, hl, hc⟩ := List.mem_flatten.mp hc
    obtain ⟨y, hy, rfl⟩ := List.mem_map.mp hl
    exact (h y hy).1 c hc
  · show (Txt.join "" ys).cps.size ≤ n
    rw [← Array.length_toList, e]
    clear e
    have : ∀ zs : List Str, (∀ y ∈ zs, Short 1 y) → ((zs.map fun y => y.cps.toList).flatten).length ≤ zs.length := by
      intro zs
      induction zs with
      | nil => intro _; simp
      | cons z zs ih =>
        intro h
        have h1 := (h z List.mem_cons_self).2
        have h2 := ih fun y hy => h y (List.mem_cons_of_mem _ hy)
        have h3 : z.cps.toList.length = z.length := by rw [Array.length_toList]; rfl
        simp only [List.map_cons, List.flatten_cons, List.length_append, List.length_cons]
        omega
    exact Nat.le_trans (this ys h) hn
  )]
  intro _ hNoI
  simpa using (fun (_ : NoI.Sg) => hNoI) [5]
theorem mul_one {c : Nat} {n : Int} (h0 : 1 ≤ n) (h1 : n ≤ 9) (hc : 97 ≤ c ∧ c ≤ 122) : MulOk ⟨#[c]⟩ n ∧ NameOk (Txt.mul ⟨#[c]⟩ n) := by
  refine NoI.keep (fun _ wNoI => ?_) ?_
  simp only [↓ NoI.wrOf wNoI (by
  clear wNoI
  have l1 : (⟨#[c]⟩ : Str).length = 1 := rfl
  constructor
  · refine ⟨by simp; omega, fun _ _ => ?_, fun _ _ => ?_⟩
    · rw [l1]
      have : n = 1 ∨ n = 2 ∨ n = 3 ∨ n = 4 ∨ n = 5 ∨ n = 6 ∨ n = 7 ∨ n = 8 ∨ n = 9 := by omega
      rcases this with rfl | rfl | rfl | rfl | rfl | rfl | rfl | rfl | rfl <;> decide
    · rw [l1]
      have : n = 1 ∨ n = 2 ∨ n = 3 ∨ n = 4 ∨ n = 5 ∨ n = 6 ∨ n = 7 ∨ n = 8 ∨ n = 9 := by omega
      rcases this with rfl | rfl | rfl | rfl | rfl | rfl | rfl | rfl | rfl <;> decide
  · have : n = 1 ∨ n = 2 ∨ n = 3 ∨ n = 4 ∨ n = 5 ∨ n = 6 ∨ n = 7 ∨ n = 8 ∨ n = 9 := by omega
    have go : ∀ x : Str, (∀ d ∈ x.cps.toList, d = c) → x.length ≤ 12 → NameOk x := fun x hx hl => ⟨fun d hd => by rw [hx d hd]; exact hc, hl⟩
    rcases this with rfl | rfl | rfl | rfl | rfl | rfl | rfl | rfl | rfl <;> exact go _ (by intro d hd; simpa [Txt.mul, l1, List.replicate] using hd) (by simp [Txt.mul, l1, List.replicate, Str.length])
  )]
  intro _ hNoI
  simpa using (fun (_ : NoI.Sg) => hNoI) [5]
theorem names_str {f : Nat → Str} {many k : Nat} {e : D} (h : (dS ((List.range many).map f))[k]? = some e) : e = .str (f k) := by
  refine NoI.keep (fun _ wNoI => ?_) ?_
  simp only [↓ NoI.wrOf wNoI (by
  clear wNoI
  obtain ⟨x, h1, rfl⟩ := dS_at h
  simp only [List.getElem?_map, Option.map_eq_some_iff] at h1
  obtain ⟨i, h2, rfl⟩ := h1
  have h3 := (List.getElem?_eq_some_iff.mp h2)
  obtain ⟨h4, h5⟩ := h3
  simp at h5
  rw [h5]
  )]
  intro _ hNoI
  simpa using (fun (_ : NoI.Sg) => hNoI) [5]
theorem names_ok {f : Nat → Str} {many : Nat} (h : ∀ k, k < many → NameOk (f k)) : NamesOk ((List.range many).map f) := fun x hx => by
  obtain ⟨k, hk, rfl⟩ := List.mem_map.mp hx
  exact h k (List.mem_range.mp hk)
theorem lt_inj {a b : Int} (a0 : 0 ≤ a) (a1 : a < 26) (b0 : 0 ≤ b) (b1 : b < 26) (h : lt a = lt b) : a = b := by
  refine NoI.keep (fun _ wNoI => ?_) ?_
  simp only [↓ NoI.wrOf wNoI (by
  clear wNoI
  have nd : letters.cps.toList.Nodup := by decide +kernel
  have g : ∀ v : Int, 0 ≤ v → v < 26 → ∃ hj : v.toNat < letters.cps.toList.length, lt v = letters.cps.toList[v.toNat] := fun v v0 v1 => by
    have hj : v.toNat < letters.cps.toList.length := by rw [letters_len]; omega
    refine ⟨hj, ?_⟩
    unfold lt
    rw [List.getD_eq_getElem?_getD, List.getElem?_eq_getElem hj]
    rfl
  obtain ⟨ha, ea⟩ := g a a0 a1
  obtain ⟨hb, eb⟩ := g b b0 b1
  have := (List.getElem_inj nd).mp (by rw [← ea, ← eb, h] : letters.cps.toList[a.toNat] = letters.cps.toList[b.toNat])
  omega
  )]
  intro _ hNoI
  simpa using (fun (_ : NoI.Sg) => hNoI) [5]
theorem lt_mod_inj {first : Int} {i j many : Nat} (hm : many ≤ 9) (hi : i < many) (hj : j < many) (h : lt ((first + (i : Int)) % 26) = lt ((first + (j : Int)) % 26)) : i = j := by
  refine NoI.keep (fun _ wNoI => ?_) ?_
  simp only [↓ NoI.wrOf wNoI (by
  clear wNoI
  have := lt_inj (Int.emod_nonneg _ (by decide)) (Int.emod_lt_of_pos _ (by decide)) (Int.emod_nonneg _ (by decide)) (Int.emod_lt_of_pos _ (by decide)) h
  omega
  )]
  intro _ hNoI
  simpa using (fun (_ : NoI.Sg) => hNoI) [5]
theorem nodup_range {α : Type} {f : Nat → α} {many : Nat} (h : ∀ i j, i < many → j < many → f i = f j → i = j) : ((List.range many).map f).Nodup := by
  refine List.pairwise_map.mpr ((List.nodup_range (n := many)).imp_of_mem fun {a b} ha hb ne e => ne (h a b (List.mem_range.mp ha) (List.mem_range.mp hb) e))
theorem one_inj {c d : Nat} (h : (⟨#[c]⟩ : Str) = ⟨#[d]⟩) : c = d := by
  injection h with h
  simpa using h
theorem mul_len {c : Nat} {n : Int} (h0 : 1 ≤ n) (h1 : n ≤ 9) : (Txt.mul ⟨#[c]⟩ n).length = n.toNat := by
  refine NoI.keep (fun _ wNoI => ?_) ?_
  simp only [↓ NoI.wrOf wNoI (by
  clear wNoI
  have l1 : (⟨#[c]⟩ : Str).length = 1 := rfl
  have : n = 1 ∨ n = 2 ∨ n = 3 ∨ n = 4 ∨ n = 5 ∨ n = 6 ∨ n = 7 ∨ n = 8 ∨ n = 9 := by omega
  rcases this with rfl | rfl | rfl | rfl | rfl | rfl | rfl | rfl | rfl <;> simp [Txt.mul, l1, List.replicate, Str.length]
  )]
  intro _ hNoI
  simpa using (fun (_ : NoI.Sg) => hNoI) [5]
theorem add_inj {x : Str} {c d : Nat} (h : x ++ (⟨#[c]⟩ : Str) = x ++ (⟨#[d]⟩ : Str)) : c = d := by
  refine NoI.keep (fun _ wNoI => ?_) ?_
  simp only [↓ NoI.wrOf wNoI (by
  clear wNoI
  have e : ∀ y : Str, (x ++ y).cps = x.cps ++ y.cps := fun _ => rfl
  have := congrArg (fun z : Str => z.cps.toList) h
  simp only [e, Array.toList_append] at this
  simpa using this
  )]
  intro _ hNoI
  simpa using (fun (_ : NoI.Sg) => hNoI) [5]
theorem nodup_of_map {α β : Type} {f : α → β} : ∀ {l : List α}, (l.map f).Nodup → l.Nodup
  | [], _ => List.nodup_nil
  | a :: l, h => by
    rw [List.map_cons, List.nodup_cons] at h
    exact List.nodup_cons.mpr ⟨fun z => h.1 (List.mem_map_of_mem z), nodup_of_map h.2⟩
theorem head_add (c : Nat) (x : Str) : ((⟨#[c]⟩ : Str) ++ x).cps.toList.head? = some c := by
  have e : ((⟨#[c]⟩ : Str) ++ x).cps = #[c] ++ x.cps := rfl
  rw [e, Array.toList_append]
  rfl
end LW

namespace LW
open PySem PySem.Spec PyProof.Rows L2 SH
variable [WW]

/-! ### the mathematics of reduced words -/
def Red : List Str → Prop
  | [] => True
  | [_] => True
  | x :: y :: r => x ≠ y ∧ Red (y :: r)
theorem Red.tail {x : Str} {r : List Str} (h : Red (x :: r)) : Red r := by
  cases r with
  | nil => trivial
  | cons y r => exact h.2
theorem push_red {st : List Str} (h : Red st) (x : Str) : Red (push st x) := by
  cases st with
  | nil => trivial
  | cons y ys =>
    simp only [push]
    split
    · exact h.tail
    · rename_i e
      exact ⟨fun z => e z.symm, h⟩
theorem push_push {st : List Str} (h : Red st) (x : Str) : push (push st x) x = st := by
  refine NoI.keep (fun _ wNoI => ?_) ?_
  simp only [↓ NoI.wrOf wNoI (by
  clear wNoI
  cases st with
  | nil => simp [push]
  | cons y ys =>
    by_cases e : y = x
    · subst e
      simp only [push, if_pos]
      cases ys with
      | nil => rfl
      | cons z zs => exact if_neg fun q => h.1 q.symm
    · simp [push, e]
  )]
  intro _ hNoI
  simpa using (fun (_ : NoI.Sg) => hNoI) [5]
theorem foldl_red : ∀ {ws st : List Str}, Red st → Red (ws.foldl push st)
  | [], _, h => h
  | w :: ws, _, h => foldl_red (ws := ws) (push_red h w)
theorem stk_red (ws : List Str) : Red (stk ws) := foldl_red (st := []) trivial
theorem stk_append (a b : List Str) : stk (a ++ b) = b.foldl push (stk a) := by simp [stk]
theorem foldl_revd : ∀ {ws st : List Str}, Red (ws.reverse ++ st) → ws.foldl push st = ws.reverse ++ st
  | [], st, _ => rfl
  | w :: ws, st, h => by
    have e : (w :: ws).reverse ++ st = ws.reverse ++ (w :: st) := by simp
    rw [e] at h ⊢
    have hw : push st w = w :: st := by
      cases st with
      | nil => rfl
      | cons y ys =>
        have : Red (w :: y :: ys) := by
          clear e
          generalize ws.reverse = vs at h
          induction vs with
          | nil => exact h
          | cons v vs ih => exact ih (Red.tail h)
        exact if_neg fun q => this.1 q.symm
    rw [List.foldl_cons, hw]
    exact foldl_revd h
/-- the places of equal neighbours -/
def hits (ws : List Str) (n : Nat) : List Nat := (List.range n).filter fun k => decide (ws[k]? = ws[k + 1]?)
end LW

namespace LW
open PySem PySem.Spec PyProof.Rows L2 SH
variable [WW]

theorem foldl_stk : ∀ (n : Nat) (b : List Str), b.length = n → ∀ st, Red st → (stk b).reverse.foldl push st = b.foldl push st := by
  refine NoI.keep (fun _ wNoI => ?_) ?_
  simp only [↓ NoI.wrOf wNoI (by
  clear wNoI
  intro n
  induction n with
  | zero =>
    intro b hb st _
    rw [List.length_eq_zero_iff.mp hb]
    rfl
  | succ n ih =>
    intro b hb st hst
    obtain ⟨c, x, rfl⟩ : ∃ c x, b = c ++ [x] := ⟨b.dropLast, b.getLast (by intro e; rw [e] at hb; cases hb), (List.dropLast_concat_getLast _).symm⟩
    have hc : c.length = n := by simpa using hb
    have h1 := ih c hc st hst
    rw [stk_append]
    simp only [List.foldl_cons, List.foldl_nil, List.foldl_append]
    rw [← h1]
    cases q : stk c with
    | nil => simp [push]
    | cons y ys =>
      by_cases e : y = x
      · subst e
        rw [List.reverse_cons, List.foldl_append, List.foldl_cons, List.foldl_nil, push_push (foldl_red hst)]
        show (push (y :: ys) y).reverse.foldl push st = _
        rw [show push (y :: ys) y = ys from if_pos rfl]
      · simp [push, e]
  )]
  intro _ hNoI
  simpa using (fun (_ : NoI.Sg) => hNoI) [5]
theorem stk_redS (a : List Str) : stk (redS a) = stk a := foldl_stk a.length a rfl [] trivial
theorem redS_left (a b : List Str) : redS (redS a ++ b) = redS (a ++ b) := by
  have := stk_redS a
  show (stk (redS a ++ b)).reverse = (stk (a ++ b)).reverse
  rw [stk_append, stk_append, this]
theorem redS_right (a b : List Str) : redS (a ++ redS b) = redS (a ++ b) := by
  refine NoI.keep (fun _ wNoI => ?_) ?_
  simp only [↓ NoI.wrOf wNoI (by
  clear wNoI
  show (stk (a ++ redS b)).reverse = (stk (a ++ b)).reverse
  rw [stk_append, stk_append]
  exact congrArg List.reverse (foldl_stk b.length b rfl _ (stk_red a))
  )]
  intro _ hNoI
  simpa using (fun (_ : NoI.Sg) => hNoI) [5]
theorem foldl_back : ∀ (a st : List Str), Red st → a.reverse.foldl push (a.foldl push st) = st
  | [], _, _ => rfl
  | x :: a, st, h => by
    rw [List.reverse_cons, List.foldl_append]
    show push (a.reverse.foldl push (a.foldl push (push st x))) x = st
    rw [foldl_back a _ (push_red h x)]
    exact push_push h x
theorem redS_inv (a : List Str) : redS (a ++ a.reverse) = [] := by
  show (stk (a ++ a.reverse)).reverse = []
  rw [stk_append]
  have := foldl_back a [] trivial
  unfold stk
  rw [this]
  rfl
theorem redS_names {a : List Str} (h : NamesOk a) : NamesOk (redS a) := fun x hx => stk_names h x (by simpa [redS] using hx)
theorem redS_len (a : List Str) : (redS a).length ≤ a.length := by
  have := stk_len a
  simpa [redS] using this
/-! ### data that can be told -/
theorem lay_strs : ∀ ws : List Str, NamesOk ws → PyData.canLayAll0 (dS ws) = true ∧ PyData.depthAll (dS ws) = 0 ∧ PyData.showableAll (dS ws) = true ∧ PyData.hasDictAll (dS ws) = false ∧ PyData.leavesShortAll 8 (dS ws) = true ∧ PyData.weightAll (dS ws) ≤ 13 * ws.length
  | [], _ => ⟨rfl, rfl, rfl, rfl, rfl, Nat.le_refl _⟩
  | w :: ws, h => by
    obtain ⟨h1, h2, h3, h4, h5, h6⟩ := lay_strs ws fun x hx => h x (List.mem_cons_of_mem _ hx)
    obtain ⟨c1, c2⟩ := h w List.mem_cons_self
    have hs : PyData.strOk w = true := by
      unfold PyData.strOk
      rw [Array.all_eq_true_iff_forall_mem]
      intro c hc
      have := c1 c (by simpa using hc)
      simp
      omega
    have hb : (w.cps.toList.all fun c => decide (c < 16 ^ 8)) = true := by
      rw [List.all_eq_true]
      intro c hc
      have := c1 c hc
      simp
      omega
    have hw : w.cps.size ≤ 12 := c2
    refine ⟨?_, ?_, ?_, ?_, ?_, ?_⟩
    · show (PyData.strOk w && PyData.canLayAll0 (dS ws)) = true
      rw [hs, h1]; rfl
    · show max 0 (PyData.depthAll (dS ws)) = 0
      rw [h2]; rfl
    · show (true && PyData.showableAll (dS ws)) = true
      rw [h3]; rfl
    · show (false || PyData.hasDictAll (dS ws)) = false
      rw [h4]; rfl
    · show ((w.cps.toList.all fun c => decide (c < 16 ^ 8)) && PyData.leavesShortAll 8 (dS ws)) = true
      rw [hb, h5]; rfl
    · show w.cps.size + 1 + PyData.weightAll (dS ws) ≤ 13 * (ws.length + 1)
      omega
end LW

namespace LW
open PySem PySem.Spec PyProof.Rows L2 SH
variable [WW]

section
variable {sl : List SV} {mem : Mem} {Φ : SV → S → Prop} {j : Nat} {b : Bag} {T : Nat}
theorem use_names {many : Nat} (hm : mem[j]? = some (some b.d)) (hw : WB (T + 100) b) (m0 : 1 ≤ many) (m1 : many ≤ 9) (k : ∀ (xs : List Str) (b' : Bag), xs.length = many → NamesOk xs → xs.Nodup → WB T b' → Φ (.dat (.list (dS xs))) ⟨sl, mem.set j (some b'.d)⟩) :
    ∃ bs, mem[j]? = some (some bs) ∧ C__law_names (.own 0 :: [PyData.int (many : Int)].map SV.dat) [some bs] (backB ⟨sl, mem⟩ j Φ) :=
  ⟨_, hm, b, T, many, rfl, rfl, hw, m0, m1, fun m' xs b' h1 h2 h3 hw' hm' => ⟨_, _, rfl, hm', k xs b' h1 h2 h3 hw'⟩⟩
theorem use_reduced {x : D} {ws : List Str} (hx : x = .tuple (dS ws)) (hn : NamesOk ws) (hl : ws.length ≤ 1000000) (k : Φ (.dat (.tuple (dS (redS ws)))) ⟨sl, mem⟩) : C_reduced ([x].map SV.dat) [] (backP ⟨sl, mem⟩ Φ) := by
  subst hx
  exact ⟨ws, rfl, rfl, hn, hl, fun m' => k⟩
theorem use_joined {ws us : List Str} (hn : NamesOk ws) (hu : NamesOk us) (hl : ws.length + us.length ≤ 1000000) (k : Φ (.dat (.tuple (dS (redS (ws ++ us))))) ⟨sl, mem⟩) : C_joined ([PyData.tuple (dS ws), PyData.tuple (dS us)].map SV.dat) [] (backP ⟨sl, mem⟩ Φ) :=
  ⟨ws, us, rfl, rfl, hn, hu, hl, fun m' => k⟩
theorem use_inverse {ws : List Str} (k : Φ (.dat (.tuple (dS ws.reverse))) ⟨sl, mem⟩) : C_inverse ([PyData.tuple (dS ws)].map SV.dat) [] (backP ⟨sl, mem⟩ Φ) :=
  ⟨ws, rfl, rfl, fun m' => k⟩
end
theorem law_start {K : PySem.W.Frag} {H : Hp} {a : Addr} {ns : List Int} (hl : ns.length ≤ 63) (hO : Only H) (hS : SqL K H a (ns.map V.int)) : spP K C_law [.ref a] H (fun v _ => v = .bl true) fun _ _ _ => False := by
  refine NoI.keep (fun _ wNoI => ?_) ?_
  simp only [↓ NoI.wrOf wNoI (by
  clear wNoI
  refine ⟨fun _ => False, [], [.ro ns], [], fun rv m' => rv = .dat (.bool true), ⟨ns, rfl, rfl, hl, fun m' => rfl⟩, ⟨⟨a, rfl, ?_⟩, trivial⟩, ⟨fun i ds e => by simp at e, fun i j a ds es e => by simp at e, fun a h => h.elim, fun a h => h.elim, Nat.le_refl _⟩, ?_⟩
  · refine Same.seq (fun b o e => Fz_of ?_ e) hS
    rintro (h | h)
    · exact h
    · exact not_live_nil h
  · rintro v ad' H' rv m' rfl _ _ r
    cases (show DV _ _ v (.bool true) from r)
    rfl
  )]
  intro _ hNoI
  simpa using (fun (_ : NoI.Sg) => hNoI) [5]
end LW

namespace LW
open PySem PySem.Spec PyProof.Rows L2 SH
variable [WW]
/-- the machines and the free one are all there are -/
def AllM (n : Nat) (st : List Int × Int) : Prop := (st.2 :: st.1).Perm (SH.upTo 0 ((n : Int) + 1)) ∧ st.1.length = n
theorem upTo0 (n : Nat) : SH.upTo 0 ((n : Int) + 1) = (List.range (n + 1)).map fun (i : Nat) => (i : Int) := by
  unfold SH.upTo
  rw [show ((n : Int) + 1 - 0).toNat = n + 1 by omega]
  simp
theorem mem_upTo0 {n : Nat} {p : Int} : p ∈ SH.upTo 0 ((n : Int) + 1) ↔ 0 ≤ p ∧ p ≤ n := by
  refine NoI.keep (fun _ wNoI => ?_) ?_
  simp only [↓ NoI.wrOf wNoI (by
  clear wNoI
  rw [upTo0, List.mem_map]
  constructor
  · rintro ⟨i, hi, rfl⟩
    have := List.mem_range.mp hi
    omega
  · intro h
    exact ⟨p.toNat, List.mem_range.mpr (by omega), by omega⟩
  )]
  intro _ hNoI
  simpa using (fun (_ : NoI.Sg) => hNoI) [5]
theorem nodup_upTo0 (n : Nat) : (SH.upTo 0 ((n : Int) + 1)).Nodup := by
  rw [upTo0]
  exact List.pairwise_map.mpr ((List.nodup_range (n := n + 1)).imp fun ne e => ne (by omega))
theorem perm_of {α : Type} [DecidableEq α] : ∀ {l r : List α}, l.Nodup → r.Nodup → (∀ x, x ∈ l ↔ x ∈ r) → l.Perm r
  | [], r, _, _, h => by
    cases r with
    | nil => exact .nil
    | cons a r => exact absurd ((h a).mpr List.mem_cons_self) (by simp)
  | a :: l, r, hl, hr, h => by
    have ha : a ∈ r := (h a).mp List.mem_cons_self
    have p := List.perm_cons_erase ha
    refine (List.Perm.cons a (perm_of (List.nodup_cons.mp hl).2 (hr.erase a) fun x => ?_)).trans p.symm
    rw [hr.mem_erase_iff]
    constructor
    · intro hx
      exact ⟨fun e => (List.nodup_cons.mp hl).1 (e ▸ hx), (h x).mp (List.mem_cons_of_mem _ hx)⟩
    · rintro ⟨h1, h2⟩
      exact (List.mem_cons.mp ((h x).mpr h2)).resolve_left h1
def frees (F : Fleet) : List Int := (SH.upTo 0 ((F.names.length : Int) + 1)).filter fun i => decide (i ∉ F.places)
theorem start_all {F : Fleet} (hF : FOk F) : AllM F.names.length (F.places, free0 F) ∧ atI (dI (frees F)) 0 = some (.int (free0 F)) := by
  refine NoI.keep (fun _ wNoI => ?_) ?_
  simp only [↓ NoI.wrOf wNoI (by
  clear wNoI
  have R := nodup_upTo0 F.names.length
  have hin : ((SH.upTo 0 ((F.names.length : Int) + 1)).filter fun i => decide (i ∈ F.places)).Perm F.places := by
    refine perm_of (R.filter _) hF.pd fun x => ?_
    rw [List.mem_filter, mem_upTo0]
    constructor
    · intro h; exact of_decide_eq_true h.2
    · intro h; exact ⟨hF.pr x h, decide_eq_true h⟩
  have hall := List.filter_append_perm (fun i => decide (i ∈ F.places)) (SH.upTo 0 ((F.names.length : Int) + 1))
  have hn : (SH.upTo 0 ((F.names.length : Int) + 1)).length = F.names.length + 1 := by rw [upTo0]; simp
  have e : (SH.upTo 0 ((F.names.length : Int) + 1)).filter (fun x => !decide (x ∈ F.places)) = frees F := by
    unfold frees
    congr 1
    funext i
    simp
  rw [e] at hall
  have hlen : (frees F).length = 1 := by
    have h1 := hall.length_eq
    have h2 := hin.length_eq
    rw [List.length_append, hn, h2, hF.pl] at h1
    omega
  obtain ⟨f, hf⟩ : ∃ f, frees F = [f] := by
    match h : frees F, hlen with
    | [f], _ => exact ⟨f, rfl⟩
  have hf0 : free0 F = f := by
    unfold free0
    rw [← upTo0]
    show (frees F).headD 0 = f
    rw [hf]
    rfl
  refine ⟨⟨?_, hF.pl⟩, ?_⟩
  · show (free0 F :: F.places).Perm _
    rw [hf0]
    have : (F.places ++ [f]).Perm (SH.upTo 0 ((F.names.length : Int) + 1)) := by
      rw [← hf]
      exact (hin.symm.append_right _).trans hall
    exact (List.perm_append_singleton f F.places).symm.trans this
  · rw [hf, hf0]
    rfl
  )]
  intro _ hNoI
  simpa using (fun (_ : NoI.Sg) => hNoI) [5]
theorem perm_sum : ∀ {l r : List Int}, l.Perm r → l.sum = r.sum
  | _, _, .nil => rfl
  | _, _, .cons a p => by rw [List.sum_cons, List.sum_cons, perm_sum p]
  | _, _, .swap a b l => by simp only [List.sum_cons]; omega
  | _, _, .trans p q => (perm_sum p).trans (perm_sum q)
theorem freeOf_all {n : Nat} {st : List Int × Int} (h : AllM n st) : freeOf st.1 = st.2 := by
  have hs := perm_sum h.1
  unfold freeOf
  rw [h.2, ← hs, List.sum_cons]
  omega
theorem set_perm {α : Type} : ∀ {l : List α} {i : Nat} {x y : α}, l[i]? = some y → (y :: l.set i x).Perm (x :: l)
  | a :: l, 0, x, y, h => by
    simp at h
    subst h
    exact .swap _ _ _
  | a :: l, i + 1, x, y, h => by
    have ih := set_perm (l := l) (i := i) (x := x) (y := y) (by simpa using h)
    rw [List.set_cons_succ]
    exact (List.Perm.swap _ _ _).trans ((List.Perm.cons a ih).trans (.swap _ _ _))
  | [], i, x, y, h => by simp at h
section
variable {names : List Str} {st : List Int × Int} {x : Str}
theorem idx_lt (hx : x ∈ names) (h : AllM names.length st) : names.idxOf x < st.1.length := by rw [h.2]; exact List.idxOf_lt_length_iff.mpr hx
theorem idx_get (hx : x ∈ names) (h : AllM names.length st) : st.1[names.idxOf x]? = some (st.1[names.idxOf x]?.getD 0) := by
  rw [List.getElem?_eq_getElem (idx_lt hx h)]
  rfl
theorem stepQ_all (hx : x ∈ names) (h : AllM names.length st) : AllM names.length (stepQ names st x) :=
  ⟨(set_perm (idx_get hx h)).trans h.1, by simp [stepQ, h.2]⟩
theorem stepPQ (hx : x ∈ names) (h : AllM names.length st) : stepP names st.1 x = (stepQ names st x).1 := by
  unfold stepP stepQ
  rw [freeOf_all h]
theorem fold_all : ∀ {w : List Str} {st : List Int × Int}, (∀ x ∈ w, x ∈ names) → AllM names.length st → AllM names.length (w.foldl (stepQ names) st)
  | [], _, _, h => h
  | x :: w, st, hw, h => fold_all (w := w) (st := stepQ names st x) (fun y hy => hw y (List.mem_cons_of_mem _ hy)) (stepQ_all (hw x List.mem_cons_self) h)
theorem fold_PQ : ∀ {w : List Str} {st : List Int × Int}, (∀ x ∈ w, x ∈ names) → AllM names.length st → w.foldl (stepP names) st.1 = (w.foldl (stepQ names) st).1
  | [], _, _, h => rfl
  | x :: w, st, hw, h => by
    rw [List.foldl_cons, List.foldl_cons, stepPQ (hw x List.mem_cons_self) h]
    exact fold_PQ (fun y hy => hw y (List.mem_cons_of_mem _ hy)) (stepQ_all (hw x List.mem_cons_self) h)
end
end LW

namespace LW
open PySem PySem.Spec PyProof.Rows L2 SH
variable [WW]
theorem dI_len (ns : List Int) : (dI ns).length = ns.length := by simp [dI]
theorem dS_len (ns : List Str) : (dS ns).length = ns.length := by simp [dS]
end LW

namespace LW
open PySem PySem.Spec PyProof.Rows L2 SH
variable [WW]
theorem shaped_strs {ws : List Str} (h : NamesOk ws) : SeqAt.shaped (.list (dS ws)) = true := by
  obtain ⟨h1, h2, _⟩ := lay_strs ws h
  unfold SeqAt.shaped PyData.canLay0 PyData.depth
  rw [h1, h2]
  rfl
/-! draws that are kept -/
end LW

namespace LW
open PySem PySem.Spec PyProof.Rows L2 SH
variable [WW]
theorem dI_at {ns : List Int} {i : Nat} {d : D} (hd : (dI ns)[i]? = some d) : ∃ x, ns[i]? = some x ∧ d = .int x := by
  simp only [dI, List.getElem?_map, Option.map_eq_some_iff] at hd
  obtain ⟨x, e1, e2⟩ := hd
  exact ⟨x, e1, e2.symm⟩
/-- a plan -/
theorem wp__law_plan {K : PySem.W.Frag} : ∀ Zc svs m Ψ, C__law_plan svs m Ψ → ExS K Zc m.length (t__law_plan K) ⟨svs ++ List.replicate (4 - svs.length) .un, m⟩ (retE Ψ) := by
  refine NoI.keep (fun _ wNoI => ?_) ?_
  simp only [↓ NoI.wrOf wNoI (by
  clear wNoI
  rintro Zc _ _ Ψ ⟨b, T, F, rfl, rfl, hw, hF, k⟩
  unfold t__law_plan
  walk_at "ev"
  refine use_some (T := T + 60) rfl (hw.less (by omega)) rfl (by nofun) (by simp) fun d b1 hd hw1 => ?_
  obtain ⟨least, rfl⟩ : ∃ least : Int, d = .int least := by
    rcases List.mem_cons.mp hd with rfl | h
    · exact ⟨_, rfl⟩
    rcases List.mem_cons.mp h with rfl | h
    · exact ⟨_, rfl⟩
    rcases List.mem_cons.mp h with rfl | h
    · exact ⟨_, rfl⟩
    rcases List.mem_cons.mp h with rfl | h
    · exact ⟨_, rfl⟩
    · cases h
  walk_at "ev"
  have hl := hF.rl
  refine ev_lc gw_name (it_range1 ?_)
  walk_at "ev"
  walk_at "nrm"
  rw [dS_len]
  refine ⟨_, rfl, by omega, by omega, fun i s => ∃ (b' : Bag) (p : List Int), i ≤ F.row.length ∧ p.length ≤ i ∧ (∀ j ∈ p, 0 ≤ j ∧ j < i) ∧ p.Pairwise (· < ·) ∧ WB (T + 60 - i) b' ∧ s = ⟨[.own 0, .dat F.d, .dat (.int least), .un], [some b'.d, none, some (.list (dI p))]⟩, ⟨b1, [], by omega, by simp, fun x hx => by simp at hx, .nil, hw1, rfl⟩, ?_, ?_⟩
  · rintro i d _ hd ⟨b3, p, hi, hpl, hp, hpa, hw3, rfl⟩ _
    obtain ⟨hi', rfl⟩ := rangeD_at hd
    walk_at "ev"
    refine use_take (T := T + 60 - (i + 1)) rfl (hw3.less (by omega)) (by omega) (by omega) fun v b2 v0 v1 hw2 => ?_
    walk_at "ev"
    refine ⟨fun _ => ?_, fun _ => ?_⟩
    · walk_at "ev"
      refine ⟨_, rfl, small (by rw [dI_len]; omega), ?_⟩
      walk_at "nrm"
      refine To.of _ ⟨b2, p ++ [(i : Int)], by omega, by simp; omega, fun j hj => ?_, ?_, hw2, rfl⟩ (by walk_at "wk") (by simp [WkMs, dI]) (by simp)
      · rcases List.mem_append.mp hj with q | q
        · have := hp j q; omega
        · simp at q; omega
      · rw [List.pairwise_append]
        refine ⟨hpa, List.pairwise_singleton _ _, fun a ha c hc => ?_⟩
        simp at hc
        have := hp a ha
        omega
    · walk_at "nrm"
      exact To.of _ ⟨b2, p, by omega, by omega, fun j hj => by have := hp j hj; omega, hpa, hw2, rfl⟩ (by walk_at "wk") (by walk_at "wk") (by simp)
  · rintro _ ⟨b3, p, hi, hpl, hp, hpa, hw3, rfl⟩
    walk_at "ev"
    refine k _ p b3 ⟨fun j hj => ?_, hpa⟩ (hw3.less (by simp [rangeD] ; omega)) rfl
    have := hp j hj
    simp [rangeD] at this
    omega
  )]
  intro _ hNoI
  simpa using (fun (_ : NoI.Sg) => hNoI) [5]
end LW

namespace LW
open PySem PySem.Spec PyProof.Rows L2 SH
variable [WW]
theorem row_at {F : Fleet} {j : Int} (h0 : 0 ≤ j) (h1 : j < F.row.length) : atI (dS F.row) j = some (.str (F.row.getD j.toNat "")) ∧ F.row.getD j.toNat "" ∈ F.row := by
  refine NoI.keep (fun _ wNoI => ?_) ?_
  simp only [↓ NoI.wrOf wNoI (by
  clear wNoI
  obtain ⟨n, rfl⟩ := Int.eq_ofNat_of_zero_le h0
  have hn : n < F.row.length := by omega
  have e : F.row.getD (n : Int).toNat "" = F.row[n] := by
    rw [Int.toNat_natCast, List.getD_eq_getElem?_getD, List.getElem?_eq_getElem hn]
    rfl
  rw [e]
  exact ⟨atI_nat (by simp [dS, hn]), List.getElem_mem hn⟩
  )]
  intro _ hNoI
  simpa using (fun (_ : NoI.Sg) => hNoI) [5]
theorem hopsB_names {F : Fleet} {p : List Int} (hF : FOk F) (hp : PlanOk F p) (k : Nat) : WordOf F (hopsB F p k) := fun x hx => by
  obtain ⟨j, hj, rfl⟩ := List.mem_map.mp hx
  have := hp.r j (List.mem_filter.mp hj).1
  exact hF.rw _ (row_at this.1 this.2).2
theorem plan_len {F : Fleet} {p : List Int} (hF : FOk F) (hp : PlanOk F p) : p.length ≤ 60 := by
  refine NoI.keep (fun _ wNoI => ?_) ?_
  simp only [↓ NoI.wrOf wNoI (by
  clear wNoI
  have : ∀ (q : List Int) (a : Int), q.Pairwise (· < ·) → (∀ j ∈ q, a ≤ j ∧ j < F.row.length) → (q.length : Int) ≤ F.row.length - a ∨ q = [] := by
    intro q
    induction q with
    | nil => intro a _ _; exact .inr rfl
    | cons x q ih =>
      intro a hq ha
      left
      have hx := ha x List.mem_cons_self
      rcases ih (x + 1) (List.pairwise_cons.mp hq).2 (fun j hj => ⟨by have := (List.pairwise_cons.mp hq).1 j hj; omega, (ha j (List.mem_cons_of_mem _ hj)).2⟩) with h | rfl
      · simp only [List.length_cons]; omega
      · simp; omega
  have h := this p 0 hp.a hp.r
  have := hF.rl
  rcases h with h | rfl
  · omega
  · simp
  )]
  intro _ hNoI
  simpa using (fun (_ : NoI.Sg) => hNoI) [5]
end LW

namespace LW
open PySem PySem.Spec PyProof.Rows L2 SH
variable [WW]
def freeG (F : Fleet) : D → Option D
  | .int j => if j ∉ F.places then some (PyData.int j) else none
  | _ => none
theorem filterMap_free (F : Fleet) : ∀ l : List Int, (dI l).filterMap (freeG F) = dI (l.filter fun i => decide (i ∉ F.places))
  | [] => rfl
  | j :: l => by
    have ih := filterMap_free F l
    have e : (dI (j :: l)).filterMap (freeG F) = (PyData.int j :: dI l).filterMap (freeG F) := rfl
    rw [e, List.filterMap_cons, List.filter_cons]
    by_cases h : j ∉ F.places
    · have e2 : freeG F (.int j) = some (.int j) := if_pos h
      rw [if_pos (by simpa using h), e2, ih]
      exact rfl
    · have e2 : freeG F (.int j) = none := if_neg h
      rw [if_neg (by simpa using h), e2]
      exact ih
theorem rangeD_upTo (n : Nat) : rangeD 0 ((n : Int) + 1).toNat = dI (SH.upTo 0 ((n : Int) + 1)) := by
  unfold rangeD SH.upTo dI
  rw [show ((n : Int) + 1 - 0).toNat = n + 1 by omega, show ((n : Int) + 1).toNat = n + 1 by omega, List.map_map]
  rfl
theorem afterQ_all {F : Fleet} (hF : FOk F) {w : List Str} (hw : WordOf F w) : AllM F.names.length (afterQ F w) := fold_all hw (start_all hF).1
theorem dI_set (l : List Int) (i : Nat) (x : Int) : (dI l).set i (.int x) = dI (l.set i x) := by simp [dI]
end LW

namespace LW
open PySem PySem.Spec PyProof.Rows L2 SH
variable [WW]
def kz (names : List Str) (ds : List D) : List (Key × D) := (names.map (Sum.inr : Str → Key)).zip ds
theorem idx_cons {y x : Str} {names : List Str} : (y :: names).idxOf x = if y = x then 0 else names.idxOf x + 1 := by
  rw [List.idxOf_cons]
  by_cases e : y = x
  · subst e; simp
  · rw [beq_eq_false_iff_ne.mpr e, if_neg e]
    rfl
theorem lk_zip {x : Str} : ∀ {names : List Str} {ds : List D}, x ∈ names → names.length = ds.length → lkD (kz names ds) (.inr x) = ds[names.idxOf x]?
  | [], _, h, _ => by simp at h
  | y :: names, [], _, h => by simp at h
  | y :: names, d :: ds, hx, hl => by
    have e0 : kz (y :: names) (d :: ds) = (.inr y, d) :: kz names ds := rfl
    rw [e0, idx_cons]
    by_cases e : y = x
    · subst e
      simp [lkD]
    · rw [if_neg e]
      have hx' : x ∈ names := (List.mem_cons.mp hx).resolve_left fun z => e z.symm
      have ih := lk_zip (ds := ds) hx' (by simpa using hl)
      rw [List.getElem?_cons_succ, ← ih]
      have : ¬ (Sum.inr y : Key) = Sum.inr x := fun z => e (Sum.inr.inj z)
      simp [lkD, List.find?_cons, this]
theorem pt_zip {x : Str} {c : D} : ∀ {names : List Str} {ds : List D}, x ∈ names → names.length = ds.length → ptD (kz names ds) (.inr x) c = kz names (ds.set (names.idxOf x) c)
  | [], _, h, _ => by simp at h
  | y :: names, [], _, h => by simp at h
  | y :: names, d :: ds, hx, hl => by
    have e0 : kz (y :: names) (d :: ds) = (.inr y, d) :: kz names ds := rfl
    rw [e0, idx_cons]
    unfold ptD
    by_cases e : y = x
    · subst e
      rw [if_pos rfl, if_pos rfl]
      rfl
    · have : ¬ (Sum.inr y : Key) = Sum.inr x := fun z => e (Sum.inr.inj z)
      have hx' : x ∈ names := (List.mem_cons.mp hx).resolve_left fun z => e z.symm
      rw [if_neg this, if_neg e, List.set_cons_succ, pt_zip hx' (by simpa using hl)]
      rfl
theorem kz_keys {names : List Str} {ds : List D} (hl : names.length = ds.length) : (kz names ds).map (·.1) = names.map Sum.inr := List.map_fst_zip (by rw [List.length_map]; omega)
theorem inr_nodup {names : List Str} (h : names.Nodup) : (names.map (Sum.inr : Str → Key)).Nodup := List.pairwise_map.mpr (h.imp fun ne e => ne (Sum.inr.inj e))
theorem kz_len {names : List Str} {ds : List D} (hl : names.length = ds.length) : (kz names ds).length = names.length := by
  have := congrArg List.length (kz_keys hl)
  simpa using this
theorem dS_keys (names : List Str) : dS names = (names.map (Sum.inr : Str → Key)).map kD := by simp [dS, kD]
theorem filter_succ {p : List Int} (h : p.Pairwise (· < ·)) (i : Nat) : (p.filter fun j => decide (j < ((i + 1 : Nat) : Int))) = (p.filter fun j => decide (j < (i : Int))) ++ (if (i : Int) ∈ p then [(i : Int)] else []) := by
  refine NoI.keep (fun _ wNoI => ?_) ?_
  simp only [↓ NoI.wrOf wNoI (by
  clear wNoI
  induction p with
  | nil => simp
  | cons a p ih =>
    have h1 := List.pairwise_cons.mp h
    have ih := ih h1.2
    by_cases e1 : a < (i : Int)
    · rw [List.filter_cons, if_pos (decide_eq_true (by omega)), List.filter_cons, if_pos (decide_eq_true e1), ih]
      have : ((i : Int) ∈ a :: p) ↔ ((i : Int) ∈ p) := ⟨fun z => (List.mem_cons.mp z).resolve_left (by omega), List.mem_cons_of_mem _⟩
      simp only [this, List.cons_append]
    · have none1 : ∀ (b : Int), i ≤ b → p.filter (fun j => decide (j < b)) = [] ∨ ∃ j ∈ p, j < b := fun b _ => by
        cases q : p.filter (fun j => decide (j < b)) with
        | nil => exact .inl rfl
        | cons c cs =>
          have : c ∈ p.filter (fun j => decide (j < b)) := by rw [q]; exact List.mem_cons_self
          have := List.mem_filter.mp this
          exact .inr ⟨c, this.1, of_decide_eq_true this.2⟩
      have f1 : p.filter (fun j => decide (j < (i : Int))) = [] := (none1 i (Int.le_refl _)).resolve_right fun ⟨j, hj, hlt⟩ => by have := h1.1 j hj; omega
      by_cases e2 : a = (i : Int)
      · subst e2
        have f2 : p.filter (fun j => decide (j < ((i + 1 : Nat) : Int))) = [] := (none1 _ (by omega)).resolve_right fun ⟨j, hj, hlt⟩ => by have := h1.1 j hj; omega
        rw [List.filter_cons, if_pos (decide_eq_true (by omega)), List.filter_cons, if_neg (by simp), f1, f2]
        simp
      · have ni : (i : Int) ∉ a :: p := fun z => by
          rcases List.mem_cons.mp z with z | z
          · exact e2 z.symm
          · have := h1.1 _ z; omega
        have f2 : p.filter (fun j => decide (j < ((i + 1 : Nat) : Int))) = [] := (none1 _ (by omega)).resolve_right fun ⟨j, hj, hlt⟩ => by have := h1.1 j hj; omega
        rw [List.filter_cons, if_neg (by simp; omega), List.filter_cons, if_neg (by simp; omega), f1, f2, if_neg ni]
        rfl
  )]
  intro _ hNoI
  simpa using (fun (_ : NoI.Sg) => hNoI) [5]
theorem hopsB_succ {F : Fleet} {p : List Int} (hp : PlanOk F p) (i : Nat) : hopsB F p (i + 1) = hopsB F p i ++ (if (i : Int) ∈ p then [F.row.getD i ""] else []) := by
  unfold hopsB
  rw [filter_succ hp.a, List.map_append]
  split <;> simp
theorem hopsB_zero {F : Fleet} {p : List Int} (hp : PlanOk F p) : hopsB F p 0 = [] := by
  unfold hopsB
  rw [List.filter_eq_nil_iff.mpr]
  · rfl
  · intro j hj
    have := hp.r j hj
    simp; omega
theorem tabD_eq (F : Fleet) (ps : List Int) : tabD F ps = .dict (dk (kz F.names (dI ps))) := rfl
theorem wp__law_stands {K : PySem.W.Frag} : ∀ Zc svs m Ψ, C__law_stands svs m Ψ → ExS K Zc m.length (t__law_stands K) ⟨svs ++ List.replicate (9 - svs.length) .un, m⟩ (retE Ψ) := by
  refine NoI.keep (fun _ wNoI => ?_) ?_
  simp only [↓ NoI.wrOf wNoI (by
  clear wNoI
  rintro Zc _ _ Ψ ⟨F, p, rfl, rfl, hF, hp, k⟩
  unfold t__law_stands
  have hn9 := hF.n9
  have hrl := hF.rl
  have hpl := hF.pl
  have hne : F.names ≠ [] := fun z => by have := hF.n1; rw [z] at this; simp at this
  have hkne : ∀ ds : List D, F.names.length = ds.length → kz F.names ds ≠ [] := fun ds hl z => by
    have := kz_len hl
    rw [z] at this
    have := hF.n1
    simp at *
    omega
  refine ex_cut (fun s => s = ⟨[.dat F.d, .dat (.tuple (dI p)), .own 0, .own 1, .own 2, .un, .un, .un, .un], [some (tabD F F.places), some (.list []), some (.list [])]⟩) ?_ ?_
  · walk_at "ev"
    refine ev_dictZip ?_
    walk_at "ev"
    refine ⟨_, _, F.names.map Sum.inr, dI F.places, rfl, by rw [← dS_keys]; rfl, rfl, by rw [List.length_map, dI_len, hpl], inr_nodup hF.nd, ?_⟩
    walk_at "ev"
    walk_at "nrm"
    refine ⟨_, _, _, rfl, ?_⟩
    exact To.of _ rfl (by walk_at "wk") (by walk_at "wk") (by simp)
  rintro _ rfl _
  refine ex_cut (fun s => s = ⟨[.dat F.d, .dat (.tuple (dI p)), .own 0, .own 1, .own 2, .dat (.int (free0 F)), .un, .un, .un], [some (tabD F F.places), some (.list []), some (.list [])]⟩) ?_ ?_
  · walk_at "ev"
    refine ev_lcG (it_range1 ?_)
    walk_at "ev"
    walk_at "nrm"
    rw [dS_len]
    refine ⟨_, rfl, by omega, by omega, freeG F, by simp [rangeD]; omega, ?_, ?_⟩
    · rintro i d m' hd rfl
      rw [rangeD_upTo] at hd
      obtain ⟨j, hj, rfl⟩ := dI_at hd
      walk_at "ev"
      refine os_xI rfl rfl (ns := F.places) rfl ?_
      walk_at "ev"
      refine ⟨fun h => ?_, fun h => ?_⟩
      · have h : j ∉ F.places := by simpa using h
        refine ⟨_, if_pos h, ?_⟩
        walk_at "ev"
        exact ⟨rfl, Wk.of (by walk_at "wk") (by walk_at "wk")⟩
      · have h : ¬ j ∉ F.places := by simpa using h
        exact ⟨if_neg h, Wk.of (by walk_at "wk") (by walk_at "wk")⟩
    · walk_at "ev"
      rw [rangeD_upTo, filterMap_free]
      refine os_uL rfl rfl (start_all hF).2 ?_
      walk_at "ev"
      walk_at "nrm"
      exact To.of _ rfl (by walk_at "wk") (by walk_at "wk") (by simp)
  rintro _ rfl _
  walk_at "ev"
  refine ex_for (it_range1 ?_)
  walk_at "ev"
  walk_at "nrm"
  rw [dS_len]
  refine ⟨_, rfl, by omega, by omega, fun i s => i ≤ F.row.length + 1 ∧ s = ⟨[.dat F.d, .dat (.tuple (dI p)), .own 0, .own 1, .own 2, .dat (.int (afterQ F (hopsB F p i)).2), .un, .un, .un],
      [some (tabD F (afterQ F (hopsB F p i)).1), some (.list ((List.range i).map fun k => tabD F (afterQ F (hopsB F p k)).1)), some (.list ((List.range i).map fun k => .int (afterQ F (hopsB F p k)).2))]⟩,
    To.of _ ⟨by omega, rfl⟩ (by rw [hopsB_zero hp]; walk_at "wk") (by rw [hopsB_zero hp]; walk_at "wk") (by simp), ?_, ?_⟩
  · rintro i d _ hd ⟨hi, rfl⟩ _
    obtain ⟨hi', rfl⟩ := rangeD_at hd
    have hall := afterQ_all hF (hopsB_names hF hp i)
    have hnx : afterQ F (hopsB F p (i + 1)) = if (i : Int) ∈ p then stepQ F.names (afterQ F (hopsB F p i)) (F.row.getD i "") else afterQ F (hopsB F p i) := by
      rw [hopsB_succ hp]
      unfold afterQ
      rw [List.foldl_append]
      split <;> rfl
    dsimp only
    rw [hnx, List.range_succ, List.map_append, List.map_append]
    generalize hst : afterQ F (hopsB F p i) = st at hall
    have hlen : F.names.length = (dI st.1).length := by rw [dI_len, hall.2]
    walk_at "ev"
    refine ⟨⟨_, rfl⟩, ?_⟩
    walk_at "ev"
    walk_at "nrm"
    refine cb_dictC (es := kz F.names (dI st.1)) rfl (hkne _ hlen) ?_
    walk_at "go"
    refine mt_fz rfl ?_
    walk_at "nrm"
    refine mt_appendS (ds := (List.range i).map fun k => tabD F (afterQ F (hopsB F p k)).1) rfl (small (by rw [List.length_map, List.length_range]; omega)) ?_
    walk_at "ev"
    refine ⟨⟨_, rfl⟩, ?_⟩
    walk_at "go"
    refine mt_appendS (ds := (List.range i).map fun k => .int (afterQ F (hopsB F p k)).2) rfl (small (by rw [List.length_map, List.length_range]; omega)) ?_
    walk_at "ev"
    refine os_xI rfl rfl (ns := p) rfl ?_
    walk_at "ev"
    refine ⟨fun h => ?_, fun h => ?_⟩
    · have h : (i : Int) ∈ p := by simpa using h
      have hr := hp.r _ h
      have hra := row_at hr.1 hr.2
      rw [Int.toNat_natCast] at hra
      have hxm := hF.rw _ hra.2
      rw [if_pos h]
      generalize F.row.getD i "" = x at hra hxm
      have hg := idx_get hxm hall
      have hlt := idx_lt hxm hall
      walk_at "ev"
      refine os_uT rfl rfl hra.1 ?_
      walk_at "ev"
      walk_at "nrm"
      refine os_uD (es := kz F.names (dI st.1)) (k := .inr x) rfl rfl (d := .int (st.1[F.names.idxOf x]?.getD 0)) (by rw [lk_zip hxm hlen, dI, List.getElem?_map, hg]; rfl) ?_
      walk_at "ev"
      refine gt_subD ?_
      walk_at "ev"
      refine ⟨0, kz F.names (dI st.1), .inr x, rfl, rfl, rfl, hkne _ hlen, small (by rw [kz_len hlen]; omega), by rw [kz_keys hlen]; exact inr_nodup hF.nd, ?_⟩
      walk_at "ev"
      walk_at "nrm"
      rw [pt_zip hxm hlen, dI_set]
      refine To.of _ ⟨by omega, rfl⟩ (by walk_at "wk") ?_ (by simp)
      simp [WkMs, stepQ, hst, tabD_eq]
    · have h : ¬ (i : Int) ∈ p := by simpa using h
      rw [if_neg h]
      walk_at "ev"
      walk_at "nrm"
      refine To.of _ ⟨by omega, rfl⟩ (by walk_at "wk") ?_ (by simp)
      simp [WkMs, hst, tabD_eq]
  · rintro _ ⟨_, rfl⟩ _
    have el : (rangeD 0 ((F.row.length : Int) + 1).toNat).length = F.row.length + 1 := by simp [rangeD]
    rw [el]
    walk_at "go"
    exact k _
  )]
  intro _ hNoI
  simpa using (fun (_ : NoI.Sg) => hNoI) [5]
end LW

namespace SH
open PySem PySem.Spec PyProof.Rows L2
variable [WW]
/-- a cell is given up ahead of a statement -/
theorem ex_fz {K : PySem.W.Frag} {Zc : Addr → Prop} {n : Nat} {s : S} {De : DE} {t : TS} {i : Nat} {e : D} (he : s.mem[i]? = some (some e)) (h : ExS K Zc n t (s.fz i e) De) : ExS K Zc n t s De := by
  refine NoI.keep (fun _ wNoI => ?_) ?_
  simp only [↓ NoI.wrOf wNoI (by
  clear wNoI
  intro ad H σ Dd I hn k1 k2 k3 k4
  have F1 : Frm Zc n ad s.mem H ad (s.fz i e).mem H := (Frm.drop (i := i)).less hn
  exact h ad H σ Dd (I.fz he) (by simpa [S.fz] using hn) (fun σ2 ad2 H2 s2 a b c => k1 σ2 ad2 H2 s2 a b (F1.trans c (Nat.le_refl n))) (fun v ad2 H2 rv m2 a b c d => k2 v ad2 H2 rv m2 a b (F1.trans c (Nat.le_refl n)) d)
    (fun σ2 ad2 H2 s2 a b c => k3 σ2 ad2 H2 s2 a b (F1.trans c (Nat.le_refl n))) fun σ2 ad2 H2 s2 a b c => k4 σ2 ad2 H2 s2 a b (F1.trans c (Nat.le_refl n))
  )]
  intro _ hNoI
  simpa using (fun (_ : NoI.Sg) => hNoI) [5]
end SH
namespace LW
open PySem PySem.Spec PyProof.Rows L2 SH
variable [WW]
theorem perm_ints {es : List D} {xs : List Int} (h : es.Perm (dI xs)) : ∃ ys : List Int, es = dI ys ∧ ys.Perm xs := by
  refine NoI.keep (fun _ wNoI => ?_) ?_
  simp only [↓ NoI.wrOf wNoI (by
  clear wNoI
  let un : D → Option Int := fun d => match d with
    | .int x => some x
    | _ => none
  have hx : ∀ zs : List Int, (dI zs).filterMap un = zs := by
    intro zs
    induction zs with
    | nil => rfl
    | cons z zs ih =>
      show ((.int z : D) :: dI zs).filterMap un = z :: zs
      rw [List.filterMap_cons, ih]
  have hm : ∀ d ∈ es, ∃ x, d = .int x := fun d hd => by
    obtain ⟨x, _, rfl⟩ := List.mem_map.mp (h.mem_iff.mp hd)
    exact ⟨x, rfl⟩
  refine ⟨es.filterMap un, ?_, ?_⟩
  · clear h
    induction es with
    | nil => rfl
    | cons d es ih =>
      obtain ⟨x, rfl⟩ := hm d List.mem_cons_self
      show _ = dI (((.int x : D) :: es).filterMap un)
      rw [List.filterMap_cons]
      show _ = (.int x : D) :: dI (es.filterMap un)
      rw [← ih fun d hd => hm d (List.mem_cons_of_mem _ hd)]
  · have := h.filterMap un
    rwa [hx] at this
  )]
  intro _ hNoI
  simpa using (fun (_ : NoI.Sg) => hNoI) [5]
theorem cut_take {ds : List D} {k : Nat} (h : k ≤ ds.length) : SH.cutD ds none (some (k : Int)) = ds.take k := by
  unfold SH.cutD
  rw [HT.sIx_nat, HT.sIx_none, List.drop_zero, Nat.sub_zero, Nat.min_eq_left h]
theorem map_erase : ∀ (l : List Str) (j : Nat), (dS l).eraseIdx j = dS (l.eraseIdx j)
  | [], _ => rfl
  | x :: l, 0 => rfl
  | x :: l, j + 1 => congrArg ((.str x : D) :: ·) (map_erase l j)
theorem getD_mem {l : List Str} {j : Nat} (h : j < l.length) : l.getD j "" ∈ l := by
  rw [List.getD_eq_getElem?_getD, List.getElem?_eq_getElem h]
  exact List.getElem_mem h
def Slots7 (F : Fleet) (kind : Int) (many most : Nat) (x y : SV) : List SV := [.own 0, .dat (.int (many : Int)), .dat (.int (most : Int)), .dat (.tuple (dS F.names)), .dat (.int kind), .dat (.tuple (dI F.places)), x, y, .un, .un]
theorem wp__law_fleet {K : PySem.W.Frag} : ∀ Zc svs m Ψ, C__law_fleet svs m Ψ → ExS K Zc m.length (t__law_fleet K) ⟨svs ++ List.replicate (10 - svs.length) .un, m⟩ (retE Ψ) := by
  refine NoI.keep (fun _ wNoI => ?_) ?_
  simp only [↓ NoI.wrOf wNoI (by
  clear wNoI
  rintro Zc _ _ Ψ ⟨b, T, many, most, rfl, rfl, hw, m1, m9, mm, k⟩
  unfold t__law_fleet
  refine ex_cut (fun s => ∃ (b' : Bag) (ys : List Str) (kind : Int), ys.length = many ∧ NamesOk ys ∧ ys.Nodup ∧ sortedS ys = true ∧ WB (T + 190) b' ∧
    s = ⟨[.own 0, .dat (.int (many : Int)), .dat (.int (most : Int)), .dat (.tuple (dS ys)), .dat (.int kind), .un, .un, .un, .un, .un], [some b'.d]⟩) ?_ ?_
  · walk_at "ev"
    refine use_names (T := T + 200) rfl (hw.less (by omega)) m1 m9 fun xs b1 hl hx hn hw1 => ?_
    walk_at "ev"
    refine cb_sortXS (xs := xs) rfl (by omega) fun ys hp hs => ?_
    walk_at "ev"
    refine use_take (T := T + 190) rfl (hw1.less (by omega)) (by omega) (by omega) fun kind b2 _ _ hw2 => ?_
    walk_at "ev"
    walk_at "nrm"
    exact ⟨_, _, rfl, To.of _ ⟨b2, ys, kind, by rw [hp.length_eq, hl], fun x hx' => hx x (hp.mem_iff.mp hx'), hp.nodup_iff.mpr hn, hs, hw2, rfl⟩ (by walk_at "wk") (by walk_at "wk") (by simp)⟩
  rintro _ ⟨b1, names, kind, hl, hok, hnd, hso, hw1, rfl⟩ _
  refine ex_cut (fun s => ∃ (b' : Bag) (ps : List Int), ps.length = many ∧ ps.Nodup ∧ (∀ p ∈ ps, 0 ≤ p ∧ p ≤ many) ∧ WB (T + 150) b' ∧ s = ⟨Slots7 ⟨names, ps, []⟩ kind many most .un .un, [some b'.d]⟩) ?_ ?_
  · walk_at "ev"
    walk_at "nrm"
    refine cb_listWR rfl ⟨by decide, by decide, by omega, by omega⟩ (by omega) ?_
    walk_at "go"
    refine use_mixed (T := T + 150) rfl (hw1.less (by simp [SH.upTo_len]; omega)) rfl (by simp [SH.upTo_len]; omega) fun es b2 hp hw2 => ?_
    obtain ⟨ys, rfl, hp'⟩ := perm_ints hp
    walk_at "go"
    have hlen : ys.length = many + 1 := by rw [hp'.length_eq, SH.upTo_len]; omega
    rw [cut_take (by rw [dI_len]; omega), show (dI ys).take many = dI (ys.take many) by simp [dI, List.map_take]]
    refine To.of _ ⟨b2, ys.take many, by rw [List.length_take]; omega, ((hp'.nodup_iff.mpr (nodup_upTo0 many)).sublist (List.take_sublist _ _)), fun p hp2 => mem_upTo0.mp (hp'.mem_iff.mp (List.mem_of_mem_take hp2)), hw2, rfl⟩ (by walk_at "wk") (by walk_at "wk") (by simp)
  rintro _ ⟨b2, ps, hpl, hpd, hpr, hw2, rfl⟩ _
  refine ex_cut (fun s => s = ⟨Slots7 ⟨names, ps, []⟩ kind many most (.own 1) (.own 2), [some b2.d, some (.list (dS names)), some (.list [])]⟩) ?_ ?_
  · unfold Slots7
    walk_at "go"
    exact ⟨_, _, rfl, To.of _ rfl (by walk_at "wk") (by walk_at "wk") (by simp)⟩
  rintro _ rfl _
  refine ex_cut (fun s => ∃ (b' : Bag) (so : List Str), so ≠ [] ∧ so.length ≤ 9 ∧ (∀ x ∈ so, x ∈ names) ∧ WB (T + 140) b' ∧ s = ⟨Slots7 ⟨names, ps, []⟩ kind many most (.own 1) (.own 2), [some b'.d, some (.list (dS so)), some (.list [])]⟩) ?_ ?_
  · unfold Slots7
    have nop : To 1 (fun s => ∃ (b' : Bag) (so : List Str), so ≠ [] ∧ so.length ≤ 9 ∧ (∀ x ∈ so, x ∈ names) ∧ WB (T + 140) b' ∧ s = ⟨Slots7 ⟨names, ps, []⟩ kind many most (.own 1) (.own 2), [some b'.d, some (.list (dS so)), some (.list [])]⟩) ⟨Slots7 ⟨names, ps, []⟩ kind many most (.own 1) (.own 2), [some b2.d, some (.list (dS names)), some (.list [])]⟩ :=
      To.of _ ⟨b2, names, fun z => by rw [z] at hl; simp at hl; omega, by omega, fun x h => h, hw2.less (by omega), rfl⟩ (by unfold Slots7; walk_at "wk") (by walk_at "wk") (by simp)
    walk_at "go"
    refine ⟨fun h => ?_, fun h => ⟨by nofun, fun _ => ?_⟩⟩
    · walk_at "go"
      refine ⟨fun h => ?_, fun h => ?_⟩
      · have h : (1 : Int) < many := of_decide_eq_true h
        walk_at "go"
        refine ⟨⟨_, rfl⟩, ?_⟩
        walk_at "go"
        refine use_take (T := T + 140) rfl (hw2.less (by omega)) (by omega) (by omega) fun v b3 v0 v1 hw3 => ?_
        walk_at "go"
        obtain ⟨j, rfl⟩ := Int.eq_ofNat_of_zero_le v0
        have hj : j < names.length := by omega
        refine mt_popAtS (ds := dS names) (idx := j) (d := .str names[j]) rfl (by omega) (by omega) ?_ (by simp [dS, hj]) ?_
        · rw [dS_len]
          exact seqIndex_of (by omega) (by omega)
        · walk_at "go"
          rw [map_erase names j]
          refine To.of _ ⟨b3, names.eraseIdx j, fun z => ?_, ?_, fun x hx => List.mem_of_mem_eraseIdx hx, hw3, rfl⟩ (by walk_at "wk") (by walk_at "wk") (by simp)
          · have := List.length_eraseIdx (l := names) (i := j)
            rw [z, if_pos hj] at this
            simp at this
            omega
          · have := List.length_eraseIdx_le (l := names) (i := j)
            omega
      · walk_at "ev"
        exact nop
    · walk_at "ev"
      exact nop
  rintro _ ⟨b3, so, hsn, hs9, hsm, hw3, rfl⟩ _
  refine ex_fz (i := 1) (e := .list (dS so)) rfl ?_
  unfold Slots7
  walk_at "nrm"
  walk_at "ev"
  refine ex_for (it_range1 ?_)
  walk_at "ev"
  refine use_take (T := T + 139) rfl (hw3.less (by omega)) (by omega) (by omega) fun v b4 v0 v1 hw4 => ?_
  walk_at "go"
  obtain ⟨n, rfl⟩ := Int.eq_ofNat_of_zero_le v0
  have son : NamesOk so := fun x hx => hok x (hsm x hx)
  refine ⟨_, rfl, by omega, by omega, fun i s => ∃ (b' : Bag) (row : List Str), row.length = i ∧ i ≤ most ∧ (∀ x ∈ row, x ∈ names) ∧ WB (T + 139 - 2 * i) b' ∧
    s = ⟨[.own 0, .dat (.int (many : Int)), .dat (.int (most : Int)), .dat (.tuple (dS names)), .dat (.int kind), .dat (.tuple (dI ps)), .dat (.list (dS so)), .own 2, .un, .un], [some b'.d, none, some (.list (dS row))]⟩,
    To.of _ ⟨b4, [], rfl, by omega, fun x hx => by simp at hx, hw4, rfl⟩ (by walk_at "wk") (by walk_at "wk") (by simp), ?_, ?_⟩
  · rintro i d _ hd ⟨b5, row, rfl, hi, hrw, hw5, rfl⟩ _
    obtain ⟨hi', rfl⟩ := rangeD_at hd
    have hrn : NamesOk row := fun x hx => hok x (hrw x hx)
    have hsl : 0 < so.length := List.length_pos_iff.mpr hsn
    walk_at "ev1"
    refine ex_cut (fun s => ∃ (b' : Bag) (x : Str), x ∈ names ∧ WB (T + 139 - 2 * (row.length + 1)) b' ∧
      s = ⟨[.own 0, .dat (.int (many : Int)), .dat (.int (most : Int)), .dat (.tuple (dS names)), .dat (.int kind), .dat (.tuple (dI ps)), .dat (.list (dS so)), .own 2, .un, .dat (.str x)], [some b'.d, none, some (.list (dS row))]⟩) ?_ ?_
    · have dflt : ∀ (b6 : Bag) (De : DE) (m : Mem), (m = [] ∨ m = [some (.list [])]) → WB (T + 139 - 2 * row.length - 1) b6 →
          (∀ x b7, x ∈ names → WB (T + 139 - 2 * (row.length + 1)) b7 → De.nx ⟨[.own 0, .dat (.int (many : Int)), .dat (.int (most : Int)), .dat (.tuple (dS names)), .dat (.int kind), .dat (.tuple (dI ps)), .dat (.list (dS so)), .own 2, .dat (.int (row.length : Int)), .dat (.str x)], [some b7.d, none, some (.list (dS row))] ++ m⟩) →
          ExS K Zc 1 (tAsg (tCall (spP K C__law_some) [] E0 (tCons (tVar 0) (tCons (tVar 6) tNil))) (gName 9)) ⟨[.own 0, .dat (.int (many : Int)), .dat (.int (most : Int)), .dat (.tuple (dS names)), .dat (.int kind), .dat (.tuple (dI ps)), .dat (.list (dS so)), .own 2, .dat (.int (row.length : Int)), .un], [some b6.d, none, some (.list (dS row))] ++ m⟩ De := fun b6 De m hm hb6 hx => by
        walk_at "ev"
        refine use_some (T := T + 139 - 2 * (row.length + 1)) rfl (hb6.less (by omega)) rfl (fun z => hsn (by have := dS_len so; rw [z] at this; exact List.eq_nil_of_length_eq_zero this.symm)) (by rw [dS_len]; omega) fun d b7 hd hb7 => ?_
        obtain ⟨x, hx', rfl⟩ := List.mem_map.mp hd
        walk_at "go"
        exact hx x b7 (hsm x hx') hb7
      walk_at "go"
      refine ⟨fun h => ?_, fun h => ?_⟩
      · walk_at "go"
        · refine os_uL rfl rfl (d := .str (so.getD (row.length % so.length) "")) ?_ ?_
          · rw [dS_len, show ((row.length : Int) % (so.length : Int)) = ((row.length % so.length : Nat) : Int) by omega]
            have hm := Nat.mod_lt row.length hsl
            exact atI_nat (by simp [dS, hm])
          · walk_at "go"
            have hm := Nat.mod_lt row.length hsl
            exact To.of _ ⟨b5, _, hsm _ (getD_mem hm), hw5.less (by omega), rfl⟩ (by walk_at "wk") (by walk_at "wk") (by simp)
        · rw [dS_len]; omega
      · walk_at "go"
        refine ⟨fun h => ?_, fun h => ?_⟩
        · walk_at "go"
          refine os_ne rfl rfl (shaped_strs hrn) rfl ?_
          walk_at "go"
          refine ⟨fun hb => ?_, fun hb => ⟨by nofun, fun _ => ?_⟩⟩
          · walk_at "go"
            refine use_take (T := T + 139 - 2 * row.length - 1) rfl (hw5.less (by omega)) (by omega) (by omega) fun v b6 _ _ hw6 => ?_
            walk_at "go"
            refine ⟨fun _ => ?_, fun _ => ?_⟩
            · rcases List.eq_nil_or_concat row with rfl | ⟨ys, y, rfl⟩
              · simp [dS, PyData.eqv, PyData.eqvAll] at hb
              · have e : dS (ys.concat y) = dS ys ++ [.str y] := by simp [dS]
                walk_at "go"
                refine os_uL rfl rfl (d := .str y) (by rw [e]; exact atI_last _ _) ?_
                walk_at "go"
                exact To.of _ ⟨b6, y, hrw y (by simp), hw6.less (by omega), rfl⟩ (by walk_at "wk") (by walk_at "wk") (by simp)
            · refine dflt b6 _ [some (.list [])] (.inr rfl) hw6 fun x b7 hx hb7 => ?_
              exact To.of _ ⟨b7, x, hx, hb7, rfl⟩ (by walk_at "wk") (by walk_at "wk") (by simp)
          · refine dflt b5 _ [some (.list [])] (.inr rfl) (hw5.less (by omega)) fun x b7 hx hb7 => ?_
            exact To.of _ ⟨b7, x, hx, hb7, rfl⟩ (by walk_at "wk") (by walk_at "wk") (by simp)
        · refine ⟨by nofun, fun _ => dflt b5 _ [] (.inl rfl) (hw5.less (by omega)) fun x b7 hx hb7 => ?_⟩
          exact To.of _ ⟨b7, x, hx, hb7, rfl⟩ (by walk_at "wk") (by walk_at "wk") (by simp)
    · rintro _ ⟨b6, x, hx, hw6, rfl⟩ _
      walk_at "go"
      refine ⟨⟨_, rfl⟩, ?_⟩
      walk_at "go"
      refine mt_appendS (ds := dS row) rfl (small (by rw [dS_len]; omega)) ?_
      walk_at "go"
      rw [show dS row ++ [.str x] = dS (row ++ [x]) by simp [dS]]
      refine To.of _ ⟨b6, row ++ [x], by simp, by omega, fun y hy => ?_, hw6, rfl⟩ (by walk_at "wk") (by walk_at "wk") (by simp)
      rcases List.mem_append.mp hy with q | q
      · exact hrw y q
      · simp at q; subst q; exact hx
  · rintro _ ⟨b5, row, hrl, hi, hrw, hw5, rfl⟩ _
    have hrl : row.length = n := by simpa [rangeD] using hrl
    walk_at "go"
    exact k _ ⟨names, ps, row⟩ b5 ⟨by show 1 ≤ names.length; omega, by show names.length ≤ 9; omega, hok, hnd, hso, by show ps.length = names.length; omega, hpd, fun p hp => by have := hpr p hp; show 0 ≤ p ∧ p ≤ (names.length : Int); omega, hrw, by show row.length ≤ 60; omega⟩ hl (by show row.length ≤ most; omega) (hw5.less (by omega)) rfl
  )]
  intro _ hNoI
  simpa using (fun (_ : NoI.Sg) => hNoI) [5]
end LW

namespace LW
open PySem PySem.Spec PyProof.Rows L2 SH
variable [WW]
/-! ### data that can be told, part by part -/
structure Lay (k W : Nat) (d : D) : Prop where
  la : d.canLay0 = true
  dp : d.depth ≤ k
  sw : d.showable = true
  nd : d.hasDict = false
  ls : d.leavesShort 8 = true
  wt : d.weight ≤ W
structure LayA (k W : Nat) (ds : List D) : Prop where
  la : PyData.canLayAll0 ds = true
  dp : PyData.depthAll ds ≤ k
  sw : PyData.showableAll ds = true
  nd : PyData.hasDictAll ds = false
  ls : PyData.leavesShortAll 8 ds = true
  wt : PyData.weightAll ds ≤ W
theorem LayA.nil {k W : Nat} : LayA k W [] := ⟨rfl, Nat.zero_le _, rfl, rfl, rfl, Nat.zero_le _⟩
theorem LayA.cons {k V W : Nat} {d : D} {ds : List D} (h : Lay k V d) (t : LayA k W ds) : LayA k (V + 1 + W) (d :: ds) := by
  refine NoI.keep (fun _ wNoI => ?_) ?_
  simp only [↓ NoI.wrOf wNoI (by
  clear wNoI
  refine ⟨?_, ?_, ?_, ?_, ?_, ?_⟩
  · show (d.canLay0 && PyData.canLayAll0 ds) = true
    rw [h.la, t.la]; rfl
  · show max d.depth (PyData.depthAll ds) ≤ k
    have := h.dp; have := t.dp; omega
  · show (d.showable && PyData.showableAll ds) = true
    rw [h.sw, t.sw]; rfl
  · show (d.hasDict || PyData.hasDictAll ds) = false
    rw [h.nd, t.nd]; rfl
  · show (d.leavesShort 8 && PyData.leavesShortAll 8 ds) = true
    rw [h.ls, t.ls]; rfl
  · show d.weight + 1 + PyData.weightAll ds ≤ _
    have := h.wt; have := t.wt; omega
  )]
  intro _ hNoI
  simpa using (fun (_ : NoI.Sg) => hNoI) [5]
theorem LayA.all {k V : Nat} : ∀ {ds : List D}, (∀ d ∈ ds, Lay k V d) → LayA k ((V + 1) * ds.length) ds
  | [], _ => .nil
  | d :: ds, h => by
    have := LayA.cons (h d List.mem_cons_self) (LayA.all (ds := ds) fun e he => h e (List.mem_cons_of_mem _ he))
    rw [List.length_cons, Nat.mul_add, Nat.mul_one, Nat.add_comm]
    exact this
theorem LayA.less {k j V W : Nat} {ds : List D} (h : LayA k V ds) (a : k ≤ j) (b : V ≤ W) : LayA j W ds := ⟨h.la, Nat.le_trans h.dp a, h.sw, h.nd, h.ls, Nat.le_trans h.wt b⟩
theorem Lay.less {k j V W : Nat} {d : D} (h : Lay k V d) (a : k ≤ j) (b : V ≤ W) : Lay j W d := ⟨h.la, Nat.le_trans h.dp a, h.sw, h.nd, h.ls, Nat.le_trans h.wt b⟩
theorem LayA.list {k W : Nat} {ds : List D} (h : LayA k W ds) : Lay (k + 1) W (.list ds) :=
  ⟨by simpa [PyData.canLay0] using h.la, by have := h.dp; simp [PyData.depth]; omega, by simpa [PyData.showable] using h.sw, by simpa [PyData.hasDict] using h.nd, by simpa [PyData.leavesShort] using h.ls, by simpa [PyData.weight] using h.wt⟩
theorem LayA.tup {k W : Nat} {ds : List D} (h : LayA k W ds) : Lay (k + 1) W (.tuple ds) :=
  ⟨by simpa [PyData.canLay0] using h.la, by have := h.dp; simp [PyData.depth]; omega, by simpa [PyData.showable] using h.sw, by simpa [PyData.hasDict] using h.nd, by simpa [PyData.leavesShort] using h.ls, by simpa [PyData.weight] using h.wt⟩
theorem int_mem {ns : List Int} {e : D} (h : e ∈ dI ns) : ∃ i ∈ ns, e = .int i := by
  obtain ⟨i, hi, rfl⟩ := List.mem_map.mp h
  exact ⟨i, hi, rfl⟩
section
variable {sl : List SV} {mem : Mem} {Φ : SV → S → Prop} {j : Nat} {b : Bag} {T : Nat}
theorem use_fleet {many most : Int} (hm : mem[j]? = some (some b.d)) (hw : WB (T + 300) b) (m1 : 1 ≤ many) (m9 : many ≤ 9) (q0 : 0 ≤ most) (q1 : most ≤ 60)
    (k : ∀ (F : Fleet) (b' : Bag), FOk F → (F.names.length : Int) = many → (F.row.length : Int) ≤ most → WB T b' → Φ (.dat F.d) ⟨sl, mem.set j (some b'.d)⟩) :
    ∃ bs, mem[j]? = some (some bs) ∧ C__law_fleet (.own 0 :: [PyData.int many, PyData.int most].map SV.dat) [some bs] (backB ⟨sl, mem⟩ j Φ) := by
  refine NoI.keep (fun _ wNoI => ?_) ?_
  simp only [↓ NoI.wrOf wNoI (by
  clear wNoI
  obtain ⟨m, rfl⟩ := Int.eq_ofNat_of_zero_le (show 0 ≤ many by omega)
  obtain ⟨q, rfl⟩ := Int.eq_ofNat_of_zero_le q0
  exact ⟨_, hm, b, T, m, q, rfl, rfl, hw, by omega, by omega, by omega, fun m' F b' h1 h2 h3 hw' hm' => ⟨_, _, rfl, hm', k F b' h1 (by omega) (by omega) hw'⟩⟩
  )]
  intro _ hNoI
  simpa using (fun (_ : NoI.Sg) => hNoI) [5]
theorem use_plan {F : Fleet} (hm : mem[j]? = some (some b.d)) (hw : WB (T + 61) b) (hF : FOk F)
    (k : ∀ (p : List Int) (b' : Bag), PlanOk F p → WB T b' → Φ (.dat (.tuple (dI p))) ⟨sl, mem.set j (some b'.d)⟩) :
    ∃ bs, mem[j]? = some (some bs) ∧ C__law_plan (.own 0 :: [F.d].map SV.dat) [some bs] (backB ⟨sl, mem⟩ j Φ) :=
  ⟨_, hm, b, T, F, rfl, rfl, hw, hF, fun m' p b' h1 hw' hm' => ⟨_, _, rfl, hm', k p b' h1 hw'⟩⟩
end
theorem wp__law_wide {K : PySem.W.Frag} : ∀ Zc svs m Ψ, C__law_wide svs m Ψ → ExS K Zc m.length (t__law_wide K) ⟨svs ++ List.replicate (1 - svs.length) .un, m⟩ (retE Ψ) := by
  refine NoI.keep (fun _ wNoI => ?_) ?_
  simp only [↓ NoI.wrOf wNoI (by
  clear wNoI
  rintro Zc _ _ Ψ ⟨b, T, rfl, rfl, hw, k⟩
  unfold t__law_wide
  walk_at "ev"
  refine use_some (T := T + 301) rfl (hw.less (by omega)) (ds := dI [3, 5, 8, 2]) rfl (by nofun) (by simp [dI]) fun d b1 hd hw1 => ?_
  obtain ⟨many, hmany, rfl⟩ := int_mem hd
  walk_at "ev"
  refine use_some (T := T + 300) rfl (hw1.less (by omega)) (ds := dI [20, 60, 40]) rfl (by nofun) (by simp [dI]) fun d b2 hd2 hw2 => ?_
  obtain ⟨most, hmost, rfl⟩ := int_mem hd2
  have h1 : 2 ≤ many ∧ many ≤ 8 := by
    have : ∀ x ∈ ([3, 5, 8, 2] : List Int), 2 ≤ x ∧ x ≤ 8 := by decide
    exact this _ hmany
  have h2 : 20 ≤ most ∧ most ≤ 60 := by
    have : ∀ x ∈ ([20, 60, 40] : List Int), 20 ≤ x ∧ x ≤ 60 := by decide
    exact this _ hmost
  walk_at "ev"
  refine use_fleet (T := T) rfl hw2 (by omega) (by omega) (by omega) (by omega) fun F b3 hF e1 e2 hw3 => ?_
  exact k _ F b3 hF (by omega) (by omega) hw3 rfl
  )]
  intro _ hNoI
  simpa using (fun (_ : NoI.Sg) => hNoI) [5]
end LW

namespace LW
open PySem PySem.Spec PyProof.Rows L2 SH
variable [WW]
section
variable {F : Fleet} {w : List Str}
theorem afterPQ (hF : FOk F) (hw : WordOf F w) : afterP F w = (afterQ F w).1 := fold_PQ hw (start_all hF).1
def pairD (st : List Int × Int) : D := .list [.tuple (dI st.1), .int st.2]
end
section
variable {sl : List SV} {mem : Mem} {Φ : SV → S → Prop} {j : Nat} {b : Bag} {T : Nat} {F : Fleet} {w : List Str}
theorem use_wide (hm : mem[j]? = some (some b.d)) (hw : WB (T + 302) b) (k : ∀ (F : Fleet) (b' : Bag), FOk F → WB T b' → Φ (.dat F.d) ⟨sl, mem.set j (some b'.d)⟩) :
    ∃ bs, mem[j]? = some (some bs) ∧ C__law_wide (.own 0 :: [].map SV.dat) [some bs] (backB ⟨sl, mem⟩ j Φ) :=
  ⟨_, hm, b, T, rfl, rfl, hw, fun m' F b' h1 _ _ hw' hm' => ⟨_, _, rfl, hm', k F b' h1 hw'⟩⟩
theorem use_stands {p : List Int} (hF : FOk F) (hp : PlanOk F p) (k : Φ (.dat (.tuple [.list ((List.range (F.row.length + 1)).map fun k => tabD F (afterQ F (hopsB F p k)).1), .list ((List.range (F.row.length + 1)).map fun k => .int (afterQ F (hopsB F p k)).2)])) ⟨sl, mem⟩) :
    C__law_stands ([F.d, .tuple (dI p)].map SV.dat) [] (backP ⟨sl, mem⟩ Φ) := ⟨F, p, rfl, rfl, hF, hp, fun m' => k⟩
end
end LW

namespace LW
open PySem PySem.Spec PyProof.Rows L2 SH
variable [WW]
end LW

end
section

local macro_rules | `(tactic| walk_at "ev1") => `(tactic| first
  | (with_reducible refine SH.ex_seq ?_)
  | (with_reducible refine SH.back ?_)
  | ((with_reducible show (true = true → _) ∧ (true = false → _)); refine ⟨fun _ => ?_, fun shh => Bool.noConfusion shh⟩)
  | ((with_reducible show (false = true → _) ∧ (false = false → _)); refine ⟨fun shh => Bool.noConfusion shh, fun _ => ?_⟩)
  | ((with_reducible show ((!true) = true → _) ∧ ((!true) = false → _)); refine ⟨fun shh => Bool.noConfusion shh, fun _ => ?_⟩)
  | ((with_reducible show ((!false) = true → _) ∧ ((!false) = false → _)); refine ⟨fun _ => ?_, fun shh => Bool.noConfusion shh⟩)
  | ((with_reducible show ∃ shE1 shE2, [_, _] = [shE1, shE2] ∧ _); refine ⟨_, _, rfl, ?_⟩)
  | ((with_reducible show ∃ shE1 shE2 shE3, [_, _, _] = [shE1, shE2, shE3] ∧ _); refine ⟨_, _, _, rfl, ?_⟩)
  | ((with_reducible show (∃ shE1, SH.rd _ _ = some (PySem.PyData.list shE1)) ∧ _); refine ⟨⟨_, rfl⟩, ?_⟩)
  | ((with_reducible show SH.MtS _ _ L2.rAppend _ _ _ _); refine SH.mt_appendS rfl ?_ ?_; rotate_left 1)
  | ((with_reducible show ∃ shE1 shE2, SH.rd _ (SH.SV.dat (PySem.PyData.bool _)) = some shE1 ∧ SH.truD shE1 = some shE2 ∧ _); refine ⟨_, _, rfl, rfl, by nofun, ?_⟩)
  | (with_reducible refine SH.ex_if ?_)
  | (with_reducible refine SH.ex_ret ?_)
  | (with_reducible refine SH.ex_drop ?_)
  | (with_reducible refine SH.ex_augS ?_)
  | (with_reducible refine SH.ex_put ?_)
  | ((with_reducible show SH.ExS _ _ _ (L2.tAsg _ (L2.gTup _ _ (L2.gCons (L2.gSub _ _ SH.rSetU) _))) _ _); refine SH.ex_asgT ?_)
  | ((with_reducible show SH.ExS _ _ _ (L2.tAsg _ (L2.gSub _ _ SH.rSetU)) _ _); refine SH.ex_asgT ?_)
  | (with_reducible refine SH.ex_asg ?_)
  | (with_reducible refine SH.ex_next ?_)
  | (with_reducible refine SH.ex_par ?_)
  | (with_reducible refine SH.ex_par3 ?_)
  | (with_reducible refine SH.ex_break ?_)
  | (with_reducible refine SH.ex_cont ?_)
  | (with_reducible refine SH.g_name ?_)
  | (with_reducible refine SH.gt_name ?_)
  | (with_reducible refine SH.gt_cons ?_)
  | (with_reducible refine SH.gt_nil ?_)
  | ((with_reducible refine SH.gt_tup (ds := ?shS) ?shA ?shB ?shD ?shC); (case shA => exact rfl); (case shB => exact rfl); (case shD => exact rfl))
  | (with_reducible refine SH.g_cons ?_)
  | (with_reducible refine SH.g_nil ?_)
  | ((with_reducible refine SH.g_tup (ds := ?shS) ?shA ?shB ?shD ?shC); (case shA => exact rfl); (case shB => exact rfl); (case shD => exact rfl))
  | (with_reducible refine SH.tt_test ?_)
  | (with_reducible refine SH.tt_tru ?_)
  | (with_reducible refine SH.tt_and ?_)
  | (with_reducible refine SH.tt_or ?_)
  | (with_reducible refine SH.tt_not ?_)
  | (with_reducible refine SH.tt_yes ?_)
  | (with_reducible refine SH.ev_isi (by decide) ?_)
  | (with_reducible refine SH.ev_dnew ?_)
  | (with_reducible refine SH.ev_disp1 ?_)
  | (with_reducible refine SH.ev_upper ?_)
  | (with_reducible refine SH.ev_int ?_)
  | (with_reducible refine SH.ev_str ?_)
  | (with_reducible refine SH.ev_bl ?_)
  | (with_reducible refine SH.ev_non ?_)
  | (with_reducible refine SH.ev_op ?_)
  | (with_reducible refine SH.ev_un ?_)
  | (with_reducible refine SH.ev_if ?_)
  | (with_reducible refine SH.ev_sl ?_)
  | (with_reducible refine SH.ev_cb ?_)
  | (with_reducible refine SH.ev_bmL ?_)
  | (with_reducible refine SH.ev_bmL0 ?_)
  | (with_reducible refine SH.ev_tupD ?_)
  | (with_reducible refine SH.ev_lstD ?_)
  | (with_reducible refine SH.ev_andV ?_)
  | (with_reducible refine SH.ev_join ?_)
  | (with_reducible refine SH.asD_dat ?_)
  | (with_reducible refine SH.ad_nil ?_)
  | (with_reducible refine SH.ad_cons ?_)
  | (with_reducible refine SH.ar_nil ?_)
  | (with_reducible refine SH.ar_cons ?_)
  | (with_reducible refine SH.pt_none ?_)
  | (with_reducible refine SH.pt_part ?_)
  | (with_reducible refine SH.it_range1 ?_)
  | (with_reducible refine SH.it_range2 ?_)
  | (with_reducible refine SH.it_seq ?_)
  | ((with_reducible refine SH.ev_var (sv := ?shS) ?shA ?shB ?shC); (case shA => exact rfl); (case shB => (intro z; cases z)))
  | ((with_reducible refine SH.ev_callBD (j := ?shS) ?shA ?shC); (case shA => exact rfl))
  | (with_reducible refine SH.ev_callD ?_)
  | ((with_reducible show ∃ shE1, SH.SV.dat (PySem.PyData.bool _) = SH.SV.dat (PySem.PyData.bool shE1) ∧ _); refine ⟨_, rfl, ?_⟩)
  | ((with_reducible show ∃ shE1, SH.SV.dat (PySem.PyData.int _) = SH.SV.dat (PySem.PyData.int shE1) ∧ _); refine ⟨_, rfl, ?_⟩)
  | ((with_reducible refine And.intro (a := _ ≤ PySem.sizeLine) ?shA ?shC); (case shA => (first | decide | (rw [PySem.sizeLine_eq]; simp only [List.length_cons, List.length_nil, List.length_append, List.length_map]; omega))))
  | ((with_reducible refine SH.asD_own (ds := ?shS) ?shA ?shC); (case shA => exact rfl))
  | ((with_reducible show SH.OpS _ _ (SH.rIxU _) _ _ _ _); first | refine SH.os_uL rfl rfl rfl ?_ | refine SH.os_uT rfl rfl rfl ?_)
  | ((with_reducible show SH.OpS _ _ (SH.rAddU _) _ _ _ _); first | refine SH.os_addI rfl rfl ?_ | (refine SH.os_addS rfl rfl ?_ ?_; rotate_left 1) | (refine SH.os_addL rfl rfl ?_ ?_; rotate_left 1) | (refine SH.os_addT rfl rfl ?_ ?_; rotate_left 1))
  | ((with_reducible show SH.OpS _ _ (SH.rMulX _) _ _ _ _); first | (refine SH.os_mxI rfl rfl ?_ ?_; rotate_left 1) | (refine SH.os_mxS rfl rfl ?_ ?_; rotate_left 1))
  | ((with_reducible show SH.OpS _ _ (SH.rEqU _) _ _ _ _); first | refine SH.os_eqI rfl rfl ?_ | refine SH.os_eqS rfl rfl ?_ | refine SH.os_eqO rfl rfl ?_)
  | ((with_reducible show SH.OpS _ _ (SH.rNeU _) _ _ _ _); first | refine SH.os_neI rfl rfl ?_ | refine SH.os_neS rfl rfl ?_ | refine SH.os_neO rfl rfl ?_)
  | ((with_reducible show SH.OpS _ _ _ _ _ _ _); first | refine SH.os_lt rfl rfl ?_ | refine SH.os_le rfl rfl ?_ | refine SH.os_gt rfl rfl ?_ | refine SH.os_ge rfl rfl ?_ | refine SH.os_sub rfl rfl ?_ | (refine SH.os_mod rfl rfl (by decide) ?_) | (refine SH.os_mod rfl rfl ?_ ?_; rotate_left 1) | (refine SH.os_div rfl rfl (by decide) (by decide) ?_) | (refine SH.os_div rfl rfl ?_ ?_ ?_; rotate_left 2) | (refine SH.os_pow rfl rfl ?_ ?_; rotate_left 1))
  | ((with_reducible show SH.UnS _ _ _ _ _ _); first | refine SH.un_neg' rfl ?_)
  | ((with_reducible show SH.SlS _ _ _ _ _ _ _ _); first | refine SH.sl_L rfl ?_ | refine SH.sl_T rfl ?_ | (refine SH.sl_S rfl ?_ ?_; rotate_left 1) | refine SH.sl_ro rfl ?_)
  | ((with_reducible show SH.CbS _ _ _ _ _ _); first | refine SH.cb_lenL rfl ?_ | refine SH.cb_lenT rfl ?_ | (refine SH.cb_lenS rfl ?_ ?_; rotate_left 1) | refine SH.cb_abs rfl ?_ | refine SH.cb_int rfl ?_ | refine SH.cb_listWL rfl ?_ | refine SH.cb_listWT rfl ?_ | refine SH.cb_tupL rfl ?_ | refine SH.cb_tupT rfl ?_ | refine SH.cb_min2 rfl rfl ?_ | refine SH.cb_max2 rfl rfl ?_ | refine SH.cb_rng1 rfl ?_ | refine SH.cb_rng2 rfl rfl ?_))
local macro_rules | `(tactic| walk_at "ev") => `(tactic| repeat walk_at "ev1")
local macro_rules | `(tactic| walk_at "wk") => `(tactic| (repeat' first | exact trivial | exact Or.inl rfl | (refine And.intro ?_ ?_) | exact Or.inr rfl | (refine Or.inr ⟨rfl, ?_⟩; intro j e; first | (cases e; done) | (cases e; show _ < _; first | decide | simp))))
local macro_rules | `(tactic| walk_at "nrm") => `(tactic| dsimp only [SH.S.fz, SH.SV.fz, List.map, List.set, SH.wipeS, List.cons_append, List.nil_append, List.length_cons, List.length_nil, Nat.beq, List.replicate])
local macro_rules | `(tactic| walk_at "go") => `(tactic| (walk_at "ev"; (try walk_at "nrm"); walk_at "ev"; (try walk_at "nrm"); walk_at "ev"; (try walk_at "nrm")))

namespace SH
end SH
namespace LW
open PySem PySem.Spec PyProof.Rows L2 SH
variable [WW]
end LW

namespace LW
open PySem PySem.Spec PyProof.Rows L2 SH
variable [WW]
section
variable {K : PySem.W.Frag} {Zc : Addr → Prop} {s : S} {x y : SV} {Φ : SV → S → Prop}
end
def hopG (F : Fleet) (k : Int) : D → Option D
  | .int j => if j < k then some (PyData.str (F.row.getD j.toNat "")) else none
  | _ => none
theorem filterMap_hopG (F : Fleet) (k : Int) : ∀ p : List Int, (dI p).filterMap (hopG F k) = dS ((p.filter fun j => decide (j < k)).map fun j => F.row.getD j.toNat "")
  | [] => rfl
  | j :: p => by
    have ih := filterMap_hopG F k p
    have e : (dI (j :: p)).filterMap (hopG F k) = (PyData.int j :: dI p).filterMap (hopG F k) := rfl
    rw [e, List.filterMap_cons, List.filter_cons]
    by_cases h : j < k
    · have e2 : hopG F k (.int j) = some (.str (F.row.getD j.toNat "")) := if_pos h
      rw [if_pos (by simpa using h), e2, ih]
      exact rfl
    · have e2 : hopG F k (.int j) = none := if_neg h
      rw [if_neg (by simpa using h), e2]
      exact ih
theorem wp_size {K : PySem.W.Frag} : ∀ Zc svs m Ψ, C_size svs m Ψ → ExS K Zc m.length (t_size K) ⟨svs ++ List.replicate (1 - svs.length) .un, m⟩ (retE Ψ) := by
  rintro Zc _ _ Ψ ⟨F, rfl, rfl, k⟩
  unfold t_size
  walk_at "go"
  rw [dS_len]
  exact k _
theorem wp_hopping_before {K : PySem.W.Frag} : ∀ Zc svs m Ψ, C_hopping_before svs m Ψ → ExS K Zc m.length (t_hopping_before K) ⟨svs ++ List.replicate (4 - svs.length) .un, m⟩ (retE Ψ) := by
  refine NoI.keep (fun _ wNoI => ?_) ?_
  simp only [↓ NoI.wrOf wNoI (by
  clear wNoI
  rintro Zc _ _ Ψ ⟨F, p, kk, rfl, rfl, hF, hp, k⟩
  unfold t_hopping_before
  have hl := plan_len hF hp
  walk_at "go"
  refine ev_lcG (it_seq ?_)
  walk_at "go"
  refine ⟨_, rfl, hopG F kk, by rw [dI_len]; omega, ?_, ?_⟩
  · rintro i d m' hd rfl
    obtain ⟨j, hj, rfl⟩ := dI_at hd
    have hjr := hp.r j (List.mem_of_getElem? hj)
    walk_at "go"
    refine ⟨fun h => ?_, fun h => ?_⟩
    · have h : j < (kk : Int) := of_decide_eq_true h
      refine ⟨_, if_pos h, ?_⟩
      walk_at "go"
      refine os_uT rfl rfl (row_at hjr.1 hjr.2).1 ?_
      walk_at "go"
      exact ⟨rfl, Wk.of (by walk_at "wk") (by walk_at "wk")⟩
    · have h : ¬ j < (kk : Int) := of_decide_eq_false h
      exact ⟨if_neg h, Wk.of (by walk_at "wk") (by walk_at "wk")⟩
  · walk_at "go"
    rw [filterMap_hopG]
    exact k _
  )]
  intro _ hNoI
  simpa using (fun (_ : NoI.Sg) => hNoI) [5]
theorem hops_ok {F : Fleet} {p : List Int} (hF : FOk F) (hp : PlanOk F p) (k : Nat) : NamesOk (hopsB F p k) ∧ (hopsB F p k).length ≤ 60 := by
  refine NoI.keep (fun _ wNoI => ?_) ?_
  simp only [↓ NoI.wrOf wNoI (by
  clear wNoI
  refine ⟨fun x hx => hF.ok x (hopsB_names hF hp k x hx), ?_⟩
  unfold hopsB
  rw [List.length_map]
  have := plan_len hF hp
  have := List.length_filter_le (fun j => decide (j < (k : Int))) p
  omega
  )]
  intro _ hNoI
  simpa using (fun (_ : NoI.Sg) => hNoI) [5]
theorem wp_vertex_in {K : PySem.W.Frag} : ∀ Zc svs m Ψ, C_vertex_in svs m Ψ → ExS K Zc m.length (t_vertex_in K) ⟨svs ++ List.replicate (3 - svs.length) .un, m⟩ (retE Ψ) := by
  refine NoI.keep (fun _ wNoI => ?_) ?_
  simp only [↓ NoI.wrOf wNoI (by
  clear wNoI
  rintro Zc _ _ Ψ ⟨F, p, kk, rfl, rfl, hF, hp, k⟩
  unfold t_vertex_in
  walk_at "go"
  refine ⟨F, p, kk, rfl, rfl, hF, hp, fun m' => back ?_⟩
  have := hops_ok hF hp kk
  walk_at "go"
  refine use_reduced rfl this.1 (by omega) ?_
  exact k _
  )]
  intro _ hNoI
  simpa using (fun (_ : NoI.Sg) => hNoI) [5]
end LW

namespace LW
open PySem PySem.Spec PyProof.Rows L2 SH
variable [WW]
end LW

namespace LW
open PySem PySem.Spec PyProof.Rows L2 SH
variable [WW]
theorem enum_row {F : Fleet} {i : Nat} {d : D} (h : (enumD (dS F.row))[i]? = some d) : i < F.row.length ∧ d = .tuple [.int (i : Int), .str (F.row.getD i "")] := by
  refine NoI.keep (fun _ wNoI => ?_) ?_
  simp only [↓ NoI.wrOf wNoI (by
  clear wNoI
  have hi : i < (enumD (dS F.row)).length := (List.getElem?_eq_some_iff.mp h).1
  have hi : i < F.row.length := by simpa [enumD, dS] using hi
  have e : (dS F.row)[i]? = some (.str (F.row.getD i "")) := by rw [dS, List.getElem?_map, List.getD_eq_getElem?_getD, List.getElem?_eq_getElem hi]; rfl
  rw [enumD_get e] at h
  exact ⟨hi, (Option.some.inj h).symm⟩
  )]
  intro _ hNoI
  simpa using (fun (_ : NoI.Sg) => hNoI) [5]
end LW

namespace LW
open PySem PySem.Spec PyProof.Rows L2 SH
variable [WW]
end LW

namespace LW
open PySem PySem.Spec PyProof.Rows L2 SH
variable [WW]
theorem cut_to {ds : List D} {k : Nat} : SH.cutD ds none (some (k : Int)) = ds.take k := by
  refine NoI.keep (fun _ wNoI => ?_) ?_
  simp only [↓ NoI.wrOf wNoI (by
  clear wNoI
  unfold SH.cutD
  rw [HT.sIx_nat, HT.sIx_none, List.drop_zero, Nat.sub_zero]
  by_cases h : k ≤ ds.length
  · rw [Nat.min_eq_left h]
  · rw [Nat.min_eq_right (by omega), List.take_of_length_le (Nat.le_refl _), List.take_of_length_le (by omega)]
  )]
  intro _ hNoI
  simpa using (fun (_ : NoI.Sg) => hNoI) [5]
theorem any_str {W k : Nat} {x : Str} (h : ∀ c ∈ x.cps.toList, c < 128) (hl : x.length ≤ W) : Any W k (.str x) :=
  ⟨by show (x.cps.toList.all fun c => decide (c < 128)) = true; exact List.all_eq_true.mpr fun c hc => decide_eq_true (h c hc), hl, Nat.zero_le _⟩
theorem any_int {W k : Nat} {i : Int} (h : i.natAbs < 10 ^ 50) (hW : 170 ≤ W) : Any W k (.int i) := by
  refine NoI.keep (fun _ wNoI => ?_) ?_
  simp only [↓ NoI.wrOf wNoI (by
  clear wNoI
  refine ⟨by simpa [asc] using h, ?_, Nat.zero_le _⟩
  simp only [PyData.weight]
  split
  · omega
  · rename_i z
    have z : i.natAbs ≠ 0 := by simpa using z
    have := (Nat.log2_lt z).mpr (Nat.lt_trans h (show 10 ^ 50 < 2 ^ 169 by decide +kernel))
    omega
  )]
  intro _ hNoI
  simpa using (fun (_ : NoI.Sg) => hNoI) [5]
end LW

namespace LW
open PySem PySem.Spec PyProof.Rows L2 SH
variable [WW]
end LW

namespace LW
open PySem PySem.Spec PyProof.Rows L2 SH
variable [WW]
theorem cut_sub {ds : List D} {lo hi : Option Int} : List.Sublist (SH.cutD ds lo hi) ds := (List.take_sublist _ _).trans (List.drop_sublist _ _)
/-! data that are told -/
/-! sizes of any data -/
section
variable {K : PySem.W.Frag} {Zc : Addr → Prop} {s : S} {x y : SV} {Φ : SV → S → Prop} {sl : List SV} {mem : Mem} {j : Nat} {b : Bag} {T : Nat} {F : Fleet}
end
end LW

namespace LW
open PySem PySem.Spec PyProof.Rows L2 SH
variable [WW]
end LW

end
section

local macro_rules | `(tactic| walk_at "ev1") => `(tactic| first
  | (with_reducible refine SH.ex_seq ?_)
  | (with_reducible refine SH.ev_orV ?_)
  | (with_reducible refine SH.ev_notV ?_)
  | (with_reducible refine SH.ev_chain ?_)
  | (with_reducible refine SH.back ?_)
  | ((with_reducible show (true = true → _) ∧ (true = false → _)); refine ⟨fun _ => ?_, fun shh => Bool.noConfusion shh⟩)
  | ((with_reducible show (false = true → _) ∧ (false = false → _)); refine ⟨fun shh => Bool.noConfusion shh, fun _ => ?_⟩)
  | ((with_reducible show ((!true) = true → _) ∧ ((!true) = false → _)); refine ⟨fun shh => Bool.noConfusion shh, fun _ => ?_⟩)
  | ((with_reducible show ((!false) = true → _) ∧ ((!false) = false → _)); refine ⟨fun _ => ?_, fun shh => Bool.noConfusion shh⟩)
  | ((with_reducible show ∃ shE1 shE2, [_, _] = [shE1, shE2] ∧ _); refine ⟨_, _, rfl, ?_⟩)
  | ((with_reducible show ∃ shE1 shE2 shE3, [_, _, _] = [shE1, shE2, shE3] ∧ _); refine ⟨_, _, _, rfl, ?_⟩)
  | ((with_reducible show (∃ shE1, SH.rd _ _ = some (PySem.PyData.list shE1)) ∧ _); refine ⟨⟨_, rfl⟩, ?_⟩)
  | ((with_reducible show SH.MtS _ _ L2.rAppend _ _ _ _); refine SH.mt_appendS rfl ?_ ?_; rotate_left 1)
  | ((with_reducible show ∃ shE1 shE2, SH.rd _ (SH.SV.dat (PySem.PyData.bool _)) = some shE1 ∧ SH.truD shE1 = some shE2 ∧ _); refine ⟨_, _, rfl, rfl, by nofun, ?_⟩)
  | (with_reducible refine SH.ex_if ?_)
  | (with_reducible refine SH.ex_ret ?_)
  | (with_reducible refine SH.ex_drop ?_)
  | (with_reducible refine SH.ex_augS ?_)
  | (with_reducible refine SH.ex_put ?_)
  | ((with_reducible show SH.ExS _ _ _ (L2.tAsg _ (L2.gTup _ _ (L2.gCons (L2.gSub _ _ SH.rSetU) _))) _ _); refine SH.ex_asgT ?_)
  | ((with_reducible show SH.ExS _ _ _ (L2.tAsg _ (L2.gSub _ _ SH.rSetU)) _ _); refine SH.ex_asgT ?_)
  | (with_reducible refine SH.ex_asg ?_)
  | (with_reducible refine SH.ex_next ?_)
  | (with_reducible refine SH.ex_par ?_)
  | (with_reducible refine SH.ex_par3 ?_)
  | (with_reducible refine SH.ex_break ?_)
  | (with_reducible refine SH.ex_cont ?_)
  | (with_reducible refine SH.g_name ?_)
  | (with_reducible refine SH.gt_name ?_)
  | (with_reducible refine SH.gt_cons ?_)
  | (with_reducible refine SH.gt_nil ?_)
  | ((with_reducible refine SH.gt_tup (ds := ?shS) ?shA ?shB ?shD ?shC); (case shA => exact rfl); (case shB => exact rfl); (case shD => exact rfl))
  | (with_reducible refine SH.g_cons ?_)
  | (with_reducible refine SH.g_nil ?_)
  | ((with_reducible refine SH.g_tup (ds := ?shS) ?shA ?shB ?shD ?shC); (case shA => exact rfl); (case shB => exact rfl); (case shD => exact rfl))
  | (with_reducible refine SH.tt_test ?_)
  | (with_reducible refine SH.tt_tru ?_)
  | (with_reducible refine SH.tt_and ?_)
  | (with_reducible refine SH.tt_or ?_)
  | (with_reducible refine SH.tt_not ?_)
  | (with_reducible refine SH.tt_yes ?_)
  | (with_reducible refine SH.ev_isi (by decide) ?_)
  | (with_reducible refine SH.ev_dnew ?_)
  | (with_reducible refine SH.ev_disp1 ?_)
  | (with_reducible refine SH.ev_upper ?_)
  | (with_reducible refine SH.ev_int ?_)
  | (with_reducible refine SH.ev_str ?_)
  | (with_reducible refine SH.ev_bl ?_)
  | (with_reducible refine SH.ev_non ?_)
  | (with_reducible refine SH.ev_op ?_)
  | (with_reducible refine SH.ev_un ?_)
  | (with_reducible refine SH.ev_if ?_)
  | (with_reducible refine SH.ev_sl ?_)
  | (with_reducible refine SH.ev_cb ?_)
  | (with_reducible refine SH.ev_bmL ?_)
  | (with_reducible refine SH.ev_bmL0 ?_)
  | (with_reducible refine SH.ev_tupD ?_)
  | (with_reducible refine SH.ev_lstD ?_)
  | (with_reducible refine SH.ev_andV ?_)
  | (with_reducible refine SH.ev_join ?_)
  | (with_reducible refine SH.asD_dat ?_)
  | (with_reducible refine SH.ad_nil ?_)
  | (with_reducible refine SH.ad_cons ?_)
  | (with_reducible refine SH.ar_nil ?_)
  | (with_reducible refine SH.ar_cons ?_)
  | (with_reducible refine SH.pt_none ?_)
  | (with_reducible refine SH.pt_part ?_)
  | (with_reducible refine SH.it_range1 ?_)
  | (with_reducible refine SH.it_range2 ?_)
  | (with_reducible refine SH.it_seq ?_)
  | ((with_reducible refine SH.ev_var (sv := ?shS) ?shA ?shB ?shC); (case shA => exact rfl); (case shB => (intro z; cases z)))
  | ((with_reducible refine SH.ev_callBD (j := ?shS) ?shA ?shC); (case shA => exact rfl))
  | (with_reducible refine SH.ev_callD ?_)
  | ((with_reducible show ∃ shE1, SH.SV.dat (PySem.PyData.bool _) = SH.SV.dat (PySem.PyData.bool shE1) ∧ _); refine ⟨_, rfl, ?_⟩)
  | ((with_reducible show ∃ shE1, SH.SV.dat (PySem.PyData.int _) = SH.SV.dat (PySem.PyData.int shE1) ∧ _); refine ⟨_, rfl, ?_⟩)
  | ((with_reducible refine And.intro (a := _ ≤ PySem.sizeLine) ?shA ?shC); (case shA => (first | decide | (rw [PySem.sizeLine_eq]; simp only [List.length_cons, List.length_nil, List.length_append, List.length_map]; omega))))
  | ((with_reducible refine SH.asD_own (ds := ?shS) ?shA ?shC); (case shA => exact rfl))
  | ((with_reducible show SH.OpS _ _ (SH.rIxU _) _ _ _ _); first | refine SH.os_uL rfl rfl rfl ?_ | refine SH.os_uT rfl rfl rfl ?_)
  | ((with_reducible show SH.OpS _ _ (SH.rAddU _) _ _ _ _); first | refine SH.os_addI rfl rfl ?_ | (refine SH.os_addS rfl rfl ?_ ?_; rotate_left 1) | (refine SH.os_addL rfl rfl ?_ ?_; rotate_left 1) | (refine SH.os_addT rfl rfl ?_ ?_; rotate_left 1))
  | ((with_reducible show SH.OpS _ _ (SH.rMulX _) _ _ _ _); first | (refine SH.os_mxI rfl rfl ?_ ?_; rotate_left 1) | (refine SH.os_mxS rfl rfl ?_ ?_; rotate_left 1))
  | ((with_reducible show SH.OpS _ _ (SH.rEqU _) _ _ _ _); first | refine SH.os_eqI rfl rfl ?_ | refine SH.os_eqS rfl rfl ?_ | refine SH.os_eqO rfl rfl ?_)
  | ((with_reducible show SH.OpS _ _ (SH.rNeU _) _ _ _ _); first | refine SH.os_neI rfl rfl ?_ | refine SH.os_neS rfl rfl ?_ | refine SH.os_neO rfl rfl ?_)
  | ((with_reducible show SH.OpS _ _ _ _ _ _ _); first | refine SH.os_lt rfl rfl ?_ | refine SH.os_le rfl rfl ?_ | refine SH.os_gt rfl rfl ?_ | refine SH.os_ge rfl rfl ?_ | refine SH.os_sub rfl rfl ?_ | (refine SH.os_mod rfl rfl (by decide) ?_) | (refine SH.os_mod rfl rfl ?_ ?_; rotate_left 1) | (refine SH.os_div rfl rfl (by decide) (by decide) ?_) | (refine SH.os_div rfl rfl ?_ ?_ ?_; rotate_left 2) | (refine SH.os_pow rfl rfl ?_ ?_; rotate_left 1))
  | ((with_reducible show SH.UnS _ _ _ _ _ _); first | refine SH.un_neg' rfl ?_)
  | ((with_reducible show SH.SlS _ _ _ _ _ _ _ _); first | refine SH.sl_L rfl ?_ | refine SH.sl_T rfl ?_ | (refine SH.sl_S rfl ?_ ?_; rotate_left 1) | refine SH.sl_ro rfl ?_)
  | ((with_reducible show SH.CbS _ _ _ _ _ _); first | refine SH.cb_lenL rfl ?_ | refine SH.cb_lenT rfl ?_ | (refine SH.cb_lenS rfl ?_ ?_; rotate_left 1) | refine SH.cb_abs rfl ?_ | refine SH.cb_int rfl ?_ | refine SH.cb_listWL rfl ?_ | refine SH.cb_listWT rfl ?_ | refine SH.cb_tupL rfl ?_ | refine SH.cb_tupT rfl ?_ | refine SH.cb_min2 rfl rfl ?_ | refine SH.cb_max2 rfl rfl ?_ | refine SH.cb_rng1 rfl ?_ | refine SH.cb_rng2 rfl rfl ?_))
local macro_rules | `(tactic| walk_at "ev") => `(tactic| repeat walk_at "ev1")
local macro_rules | `(tactic| walk_at "wk") => `(tactic| (repeat' first | exact trivial | exact Or.inl rfl | (refine And.intro ?_ ?_) | exact Or.inr rfl | (refine Or.inr ⟨rfl, ?_⟩; intro j e; first | (cases e; done) | (cases e; show _ < _; first | decide | simp))))
local macro_rules | `(tactic| walk_at "nrm") => `(tactic| dsimp only [SH.S.fz, SH.SV.fz, List.map, List.set, SH.wipeS, List.cons_append, List.nil_append, List.length_cons, List.length_nil, Nat.beq, List.replicate])
local macro_rules | `(tactic| walk_at "go") => `(tactic| (walk_at "ev"; (try walk_at "nrm"); walk_at "ev"; (try walk_at "nrm"); walk_at "ev"; (try walk_at "nrm")))

/-! contracts of further defs that many laws share -/
namespace LW
open PySem PySem.Spec PyProof.Rows L2 SH
variable [WW]
/-- where a service stands ahead of a stretch -/
def machB (F : Fleet) (p : List Int) (x : Str) (k : Nat) : Int := (afterP F (hopsB F p k)).getD (F.names.idxOf x) 0
/-- a lease's service and stretch -/
def leaseS : D → Str
  | .tuple [.str x, .int _] => x
  | _ => ""
def leaseK : D → Nat
  | .tuple [.str _, .int i] => i.toNat
  | _ => 0
end LW

namespace LW
open PySem PySem.Spec PyProof.Rows L2 SH
variable [WW]
end LW

namespace LW
open PySem PySem.Spec PyProof.Rows L2 SH
variable [WW]
end LW

namespace LW
open PySem PySem.Spec PyProof.Rows L2 SH
variable [WW]
end LW

/-! leases, as the law counts them -/
namespace LW
open PySem PySem.Spec PyProof.Rows L2 SH
variable [WW]
def leaseD (q : Str × Nat) : D := .tuple [.str q.1, .int (q.2 : Int)]
def allL (F : Fleet) : List (Str × Nat) := F.names.map (fun x => (x, 0)) ++ F.row.mapIdx fun j x => (x, j + 1)
def leasesD (F : Fleet) : List D := sortD ((allL F).map leaseD)
theorem leases_perm (F : Fleet) : (leasesD F).Perm ((allL F).map leaseD) := List.mergeSort_perm _ _
def C__law_leases : Ct := fun svs m Ψ => ∃ F : Fleet, svs = [.dat F.d] ∧ m = [] ∧ FOk F ∧ ∀ m' i, m'[i]? = some (some (.list (leasesD F))) → Ψ (.own i) m'
end LW

namespace LW
open PySem PySem.Spec PyProof.Rows L2 SH
variable [WW]
def t__law_leases (K : PySem.W.Frag) : TS :=
  (tSeq (tAsg (tLc (iSeq K (tOp (rIxU K) (tVar 0) (tC (.int 0)))) (gName 2) tYes (tTupF (tCons (tVar 2) (tCons (tC (.int 0)) tNil))) [2]) (gName 1))
  (tRet (tCB (rSortX K) (tCons (tOp (rAddU K) (tVar 1) (tLc (iEnumU K (tCons (tOp (rIxU K) (tVar 0) (tC (.int 2))) tNil)) (gTup K 2 (gCons (gName 3) (gCons (gName 2) gNil))) tYes (tTupF (tCons (tVar 2) (tCons (tOp (rAddU K) (tVar 3) (tC (.int 1))) tNil))) [3, 2])) tNil))))
end LW

namespace LW
open PySem PySem.Spec PyProof.Rows L2 SH
variable [WW]
theorem allL_len (F : Fleet) : (allL F).length = F.names.length + F.row.length := by simp [allL]
theorem leases_alike (l : List (Str × Nat)) : PySem.W.AllAlike (l.map leaseD) := by
  intro d hd d' hd'
  obtain ⟨q, _, rfl⟩ := List.mem_map.mp hd
  obtain ⟨r, _, rfl⟩ := List.mem_map.mp hd'
  rfl
theorem leases_sortable (l : List (Str × Nat)) : PySem.W.Sortable (l.map leaseD) := .inl fun d hd => by
  obtain ⟨q, _, rfl⟩ := List.mem_map.mp hd
  exact ⟨_, _, rfl⟩
theorem wp__law_leases {K : PySem.W.Frag} : ∀ Zc svs m Ψ, C__law_leases svs m Ψ → ExS K Zc m.length (t__law_leases K) ⟨svs ++ List.replicate (4 - svs.length) .un, m⟩ (retE Ψ) := by
  refine NoI.keep (fun _ wNoI => ?_) ?_
  simp only [↓ NoI.wrOf wNoI (by
  clear wNoI
  rintro Zc _ _ Ψ ⟨F, rfl, rfl, hF, k⟩
  unfold t__law_leases
  show ExS _ _ _ _ ⟨[.dat F.d, .un, .un, .un], []⟩ _
  have h9 := hF.n9
  have hrl := hF.rl
  refine ex_cut (fun s => s = ⟨[.dat F.d, .own 0, .un, .un], [some (.list ((F.names.map fun x => (x, 0)).map leaseD))]⟩) ?_ ?_
  · walk_at "go"
    refine ev_lcP (it_seq ?_)
    walk_at "go"
    refine ⟨_, rfl, (F.names.map fun x => (x, 0)).map leaseD, by simp [dS], by simp <;> omega, ?_, ?_⟩
    · rintro i e e' m' hi he rfl
      obtain ⟨x, hx, rfl⟩ := dS_at hi
      rw [List.getElem?_map, List.getElem?_map, hx] at he
      cases he
      walk_at "go"
      exact ⟨rfl, Wk.of (by walk_at "wk") (by walk_at "wk")⟩
    · walk_at "go"
      exact To.of _ rfl (by walk_at "wk") (by walk_at "wk") (by simp)
  rintro _ rfl _
  walk_at "go"
  refine ev_lcT (gw_pair (by simp) (by simp)) (it_enum ?_)
  walk_at "go"
  refine ⟨_, _, rfl, rfl, F.row.mapIdx fun j x => leaseD (x, j + 1), by simp [enumD, dS], by simp <;> omega, ?_, ?_⟩
  · rintro i d e m' hi he rfl
    have hi' : i < F.row.length := by
      have := (List.getElem?_eq_some_iff.mp he).1
      simpa using this
    have h1 : (dS F.row)[i]? = some (.str (F.row[i]'hi')) := by simp [dS, List.getElem?_eq_getElem hi']
    rw [enumD_get h1] at hi
    cases hi
    rw [List.getElem?_mapIdx, List.getElem?_eq_getElem hi'] at he
    cases he
    walk_at "go"
    exact ⟨rfl, Wk.of (by walk_at "wk") (by walk_at "wk")⟩
  · have e : (F.names.map fun x => (x, 0)).map leaseD ++ (F.row.mapIdx fun j x => leaseD (x, j + 1)) = (allL F).map leaseD := by
      rw [allL, List.map_append]
      congr 1
      apply List.ext_getElem?
      intro i
      simp [List.getElem?_mapIdx]
      cases F.row[i]? <;> rfl
    walk_at "go"
    · rw [e]
      refine cb_sortXD rfl (leases_alike _) (leases_sortable _) ?_ ?_ ?_ (k _ _ rfl)
      · intro d hd
        obtain ⟨q, _, rfl⟩ := List.mem_map.mp hd
        exact (by decide : 1 ≤ 50)
      · have : ∀ l : List (Str × Nat), PyData.hasDictAll (l.map leaseD) = false := fun l => by
          induction l with
          | nil => rfl
          | cons q l ih => rw [List.map_cons]; show (PyData.hasDict (leaseD q) || PyData.hasDictAll (l.map leaseD)) = false; rw [ih]; rfl
        exact this _
      · rw [List.length_map, allL_len, sizeLine_eq]
        omega
    · rw [List.length_map, List.length_map, List.length_mapIdx, sizeLine_eq]
      omega
  )]
  intro _ hNoI
  simpa using (fun (_ : NoI.Sg) => hNoI) [5]
end LW

namespace LW
open PySem PySem.Spec PyProof.Rows L2 SH
variable [WW]
theorem eqv_lease (q : Str × Nat) (x : Str) (i : Int) : PyData.eqv (leaseD q) (.tuple [.str x, .int i]) = (decide (q.1 = x) && decide ((q.2 : Int) = i)) := by
  show PyData.eqv (.tuple [.str q.1, .int (q.2 : Int)]) _ = _
  rw [Bool.eq_iff_iff]
  simp [PyData.eqv, PyData.eqvAll]
theorem mem_allL {F : Fleet} {x : Str} {k : Nat} : (x, k) ∈ allL F ↔ (x ∈ F.names ∧ k = 0) ∨ (1 ≤ k ∧ F.row[k - 1]? = some x) := by
  refine NoI.keep (fun _ wNoI => ?_) ?_
  simp only [↓ NoI.wrOf wNoI (by
  clear wNoI
  unfold allL
  rw [List.mem_append, List.mem_map, List.mem_mapIdx]
  constructor
  · rintro (⟨y, hy, e⟩ | ⟨j, hj, e⟩)
    · cases e; exact .inl ⟨hy, rfl⟩
    · cases e; exact .inr ⟨by omega, by rw [Nat.add_sub_cancel]; exact List.getElem?_eq_getElem hj⟩
  · rintro (⟨h, rfl⟩ | ⟨h1, h2⟩)
    · exact .inl ⟨x, h, rfl⟩
    · obtain ⟨hj, e⟩ := List.getElem?_eq_some_iff.mp h2
      exact .inr ⟨k - 1, hj, by rw [e, show k - 1 + 1 = k by omega]⟩
  )]
  intro _ hNoI
  simpa using (fun (_ : NoI.Sg) => hNoI) [5]
theorem strOk_name {x : Str} (h : NameOk x) : PyData.strOk x = true := by
  unfold PyData.strOk
  rw [Array.all_eq_true_iff_forall_mem]
  intro c hc
  have := h.1 c (by simpa using hc)
  simp only [decide_eq_true_eq]
  omega
end LW

/-! tables, as the law makes them -/
namespace LW
open PySem PySem.Spec PyProof.Rows L2 SH
variable [WW]
/-- the leases in the order in which the law tells them -/
def leasesL (F : Fleet) : List (Str × Nat) := (leasesD F).map fun d => (leaseS d, leaseK d)
def leaseTK (q : Str × Nat) : TK := [.text q.1, .num (q.2 : Int)]
theorem kx_lease (q : Str × Nat) : kx (leaseTK q) = leaseD q := rfl
theorem lease_undo (q : Str × Nat) : (leaseS (leaseD q), leaseK (leaseD q)) = q := by
  obtain ⟨x, k⟩ := q
  show (x, ((k : Int)).toNat) = _
  simp
theorem leasesL_perm (F : Fleet) : (leasesL F).Perm (allL F) := by
  refine NoI.keep (fun _ wNoI => ?_) ?_
  simp only [↓ NoI.wrOf wNoI (by
  clear wNoI
  have h := (leases_perm F).map fun d => (leaseS d, leaseK d)
  rw [List.map_map] at h
  have e : (allL F).map ((fun d => (leaseS d, leaseK d)) ∘ leaseD) = allL F := by
    rw [show ((fun d => (leaseS d, leaseK d)) ∘ leaseD) = id from funext fun q => lease_undo q, List.map_id]
  rw [e] at h
  exact h
  )]
  intro _ hNoI
  simpa using (fun (_ : NoI.Sg) => hNoI) [5]
theorem leasesL_map (F : Fleet) : (leasesL F).map leaseD = leasesD F := by
  refine NoI.keep (fun _ wNoI => ?_) ?_
  simp only [↓ NoI.wrOf wNoI (by
  clear wNoI
  unfold leasesL
  rw [List.map_map]
  conv => rhs; rw [← List.map_id (leasesD F)]
  apply List.map_congr_left
  intro d hd
  obtain ⟨q, _, rfl⟩ := List.mem_map.mp ((leases_perm F).mem_iff.mp hd)
  show leaseD (leaseS (leaseD q), leaseK (leaseD q)) = leaseD q
  rw [lease_undo]
  )]
  intro _ hNoI
  simpa using (fun (_ : NoI.Sg) => hNoI) [5]
theorem allL_nodup {F : Fleet} (hF : FOk F) : (allL F).Nodup := by
  refine NoI.keep (fun _ wNoI => ?_) ?_
  simp only [↓ NoI.wrOf wNoI (by
  clear wNoI
  unfold allL
  rw [List.nodup_append]
  refine ⟨?_, ?_, ?_⟩
  · exact List.Pairwise.map _ (fun a b h z => h (by simpa using congrArg Prod.fst z)) hF.nd
  · rw [List.nodup_iff_pairwise_ne, List.pairwise_iff_getElem]
    intro i j hi hj hij z
    simp at z
    omega
  · intro a ha b hb e
    subst e
    obtain ⟨x, _, rfl⟩ := List.mem_map.mp ha
    obtain ⟨j, hj, e⟩ := List.mem_mapIdx.mp hb
    cases e
  )]
  intro _ hNoI
  simpa using (fun (_ : NoI.Sg) => hNoI) [5]
def tableE (F : Fleet) (p : List Int) : List (TK × D) := (leasesL F).map fun q => (leaseTK q, .int (machB F p q.1 q.2))
theorem tableE_keys {F : Fleet} (hF : FOk F) (p : List Int) : ((tableE F p).map (·.1)).Nodup := by
  refine NoI.keep (fun _ wNoI => ?_) ?_
  simp only [↓ NoI.wrOf wNoI (by
  clear wNoI
  unfold tableE
  rw [List.map_map]
  refine List.Pairwise.map _ (fun a b h z => h ?_) ((leasesL_perm F).nodup_iff.mpr (allL_nodup hF))
  obtain ⟨x, i⟩ := a
  obtain ⟨y, j⟩ := b
  simp [leaseTK] at z
  obtain ⟨rfl, z⟩ := z
  rw [show i = j by omega]
  )]
  intro _ hNoI
  simpa using (fun (_ : NoI.Sg) => hNoI) [5]
theorem lkX_map {α : Type} {f : α → TK} {g : α → D} (hf : ∀ a b, f a = f b → a = b) : ∀ {l : List α} {a : α}, a ∈ l → lkX (l.map fun q => (f q, g q)) (f a) = some (g a)
  | b :: l, a, h => by
    by_cases e : b = a
    · subst e; simp [lkX]
    · have e' : ¬ f b = f a := fun z => e (hf _ _ z)
      have h2 : a ∈ l := by
        rcases List.mem_cons.mp h with rfl | h
        · exact absurd rfl e
        · exact h
      have := lkX_map (f := f) (g := g) hf h2
      simpa [lkX, e'] using this
theorem leaseTK_inj (a b : Str × Nat) (h : leaseTK a = leaseTK b) : a = b := by
  obtain ⟨x, i⟩ := a
  obtain ⟨y, j⟩ := b
  simp [leaseTK] at h
  obtain ⟨rfl, h⟩ := h
  rw [show i = j by omega]
theorem any_sh {W k : Nat} {d : D} (h : Any W k d) (hW : W ≤ 250000) : Sh d := ⟨(asc_show d h.as).2, by have := h.shown; rw [sizeLine_eq]; omega⟩
end LW

namespace LW
open PySem PySem.Spec PyProof.Rows L2 SH
variable [WW]
end LW


namespace LW
open PySem PySem.Spec PyProof.Rows L2 SH
variable [WW]
def standsT (F : Fleet) (p : List Int) : List D := (List.range (F.row.length + 1)).map fun k => tabD F (afterQ F (hopsB F p k)).1
def standsF (F : Fleet) (p : List Int) : List Int := (List.range (F.row.length + 1)).map fun k => (afterQ F (hopsB F p k)).2
theorem use_stands2 {sl : List SV} {mem : Mem} {Φ : SV → S → Prop} {F : Fleet} {p : List Int} (hF : FOk F) (hp : PlanOk F p) (k : Φ (.dat (.tuple [.list (standsT F p), .list (dI (standsF F p))])) ⟨sl, mem⟩) :
    C__law_stands ([F.d, .tuple (dI p)].map SV.dat) [] (backP ⟨sl, mem⟩ Φ) := by
  refine NoI.keep (fun _ wNoI => ?_) ?_
  simp only [↓ NoI.wrOf wNoI (by
  clear wNoI
  refine use_stands hF hp ?_
  have e : (List.range (F.row.length + 1)).map (fun k => PyData.int (afterQ F (hopsB F p k)).2) = dI (standsF F p) := by
    unfold standsF dI
    rw [List.map_map]
    rfl
  rw [e]
  exact k
  )]
  intro _ hNoI
  simpa using (fun (_ : NoI.Sg) => hNoI) [5]
theorem hops_word {F : Fleet} {p : List Int} (hF : FOk F) (hp : PlanOk F p) (n : Nat) : WordOf F (hopsB F p n) := hopsB_names hF hp n
theorem machB_Q {F : Fleet} {p : List Int} (hF : FOk F) (hp : PlanOk F p) (x : Str) (n : Nat) : machB F p x n = (afterQ F (hopsB F p n)).1[F.names.idxOf x]?.getD 0 := by
  unfold machB
  rw [afterPQ hF (hops_word hF hp n), List.getD_eq_getElem?_getD]
theorem leases_at {F : Fleet} {i : Nat} {d : D} (h : (leasesD F)[i]? = some d) : ∃ q, (leasesL F)[i]? = some q ∧ d = leaseD q ∧ q ∈ allL F := by
  refine NoI.keep (fun _ wNoI => ?_) ?_
  simp only [↓ NoI.wrOf wNoI (by
  clear wNoI
  rw [← leasesL_map, List.getElem?_map] at h
  cases e : (leasesL F)[i]? with
  | none => rw [e] at h; cases h
  | some q =>
    rw [e] at h
    cases h
    exact ⟨q, rfl, rfl, (leasesL_perm F).mem_iff.mp (List.mem_of_getElem? e)⟩
  )]
  intro _ hNoI
  simpa using (fun (_ : NoI.Sg) => hNoI) [5]
theorem allL_ok {F : Fleet} (hF : FOk F) {q : Str × Nat} (h : q ∈ allL F) : q.1 ∈ F.names ∧ q.2 ≤ F.row.length := by
  refine NoI.keep (fun _ wNoI => ?_) ?_
  simp only [↓ NoI.wrOf wNoI (by
  clear wNoI
  obtain ⟨x, k⟩ := q
  rcases mem_allL.mp h with ⟨h1, h2⟩ | ⟨h1, h2⟩
  · exact ⟨h1, by simp only; omega⟩
  · have := (List.getElem?_eq_some_iff.mp h2).1
    exact ⟨hF.rw _ (List.mem_of_getElem? h2), by simp only; omega⟩
  )]
  intro _ hNoI
  simpa using (fun (_ : NoI.Sg) => hNoI) [5]
end LW

namespace LW
open PySem PySem.Spec PyProof.Rows L2 SH
variable [WW]
section
variable {sl : List SV} {mem : Mem} {Φ : SV → S → Prop} {b : Bag} {T j : Nat}
theorem use_alikeA {d e : D} {W kk : Nat} (he : e = d) (ha : Any W kk d) (hW : W ≤ 250000) (hk : kk ≤ 40) (k : Φ (.dat (.bool true)) ⟨sl, mem⟩) : C__law_alike ([d, e].map SV.dat) [] (backP ⟨sl, mem⟩ Φ) := by
  subst he
  exact ⟨_, rfl, rfl, .inr (.inr ⟨any_sh ha hW, Nat.le_trans ha.dp hk⟩), fun m' => k⟩
end
theorem cb_sortXI {K : PySem.W.Frag} {Zc : Addr → Prop} {s : S} {x : SV} {Φ : SV → S → Prop} {xs : List Int} (h1 : rd s.mem x = some (.list (dI xs))) (hz : xs.length < 64) (k : ∀ ys : List Int, ys.Perm xs → ys.Pairwise (· ≤ ·) → Φ (.own s.mem.length) ⟨s.sl, s.mem ++ [some (.list (dI ys))]⟩) : CbS K Zc (rSortX K) [x] s Φ :=
  fun ad H σ vs Q I r p => .inl (cb_sortI h1 hz k ad H σ vs Q I r p)
theorem lease_dp (q : Str × Nat) : (NestedKey.tup (leaseTK q)).depth ≤ 8 := (by decide : 1 ≤ 8)
theorem any_name {F : Fleet} (hF : FOk F) {x : Str} (hx : x ∈ F.names) : Any 12 0 (.str x) := by
  have h := hF.ok x hx
  exact any_str (fun c hc => by have := h.1 c hc; omega) h.2
theorem any_leaseD {F : Fleet} (hF : FOk F) {q : Str × Nat} (h : q ∈ allL F) : Any 184 1 (leaseD q) := by
  refine NoI.keep (fun _ wNoI => ?_) ?_
  simp only [↓ NoI.wrOf wNoI (by
  clear wNoI
  obtain ⟨h1, h2⟩ := allL_ok hF h
  have hrl := hF.rl
  exact ((AnyA.cons (any_name hF h1) (AnyA.cons (any_int (W := 170) (k := 0) (i := (q.2 : Int)) (by omega) (Nat.le_refl _)) AnyA.nil (V := 0))).tup).less (by omega) (Nat.le_refl _)
  )]
  intro _ hNoI
  simpa using (fun (_ : NoI.Sg) => hNoI) [5]
theorem standsF_len (F : Fleet) (p : List Int) : (standsF F p).length = F.row.length + 1 := by simp [standsF]
end LW

/-! leases looked at -/
namespace LW
open PySem PySem.Spec PyProof.Rows L2 SH
variable [WW]
/-! ### ascending lists -/
def nats (l : List Nat) : List Int := l.map fun (j : Nat) => (j : Int)
theorem range_pw (n : Nat) : (List.range n).Pairwise (· < ·) := List.pairwise_lt_range
/-- from a up to and with b -/
def fromTo (a b : Nat) : List Nat := List.range' a (b + 1 - a)
theorem mem_fromTo {a b x : Nat} : x ∈ fromTo a b ↔ a ≤ x ∧ x ≤ b := by
  unfold fromTo
  rw [List.mem_range'_1]
  omega
/-! ### restarts, begins, ends -/
def rsN (F : Fleet) (x : Str) : List Nat := (List.range F.row.length).filter fun j => decide (F.row[j]? = some x)
theorem mem_rsN {F : Fleet} {x : Str} {j : Nat} : j ∈ rsN F x ↔ F.row[j]? = some x := by
  unfold rsN
  rw [List.mem_filter, List.mem_range, decide_eq_true_eq]
  exact ⟨fun h => h.2, fun h => ⟨(List.getElem?_eq_some_iff.mp h).1, h⟩⟩
theorem rsN_pw (F : Fleet) (x : Str) : (rsN F x).Pairwise (· < ·) := (range_pw _).filter _
def endOf (F : Fleet) (x : Str) (b : Nat) : Nat := ((rsN F x).find? fun j => decide (b ≤ j)).getD F.row.length
theorem endOf_spec (F : Fleet) (x : Str) (b : Nat) (hb : b ≤ F.row.length) : b ≤ endOf F x b ∧ endOf F x b ≤ F.row.length ∧ (endOf F x b = F.row.length ∨ F.row[endOf F x b]? = some x) ∧ ∀ j, b ≤ j → j < endOf F x b → F.row[j]? ≠ some x := by
  refine NoI.keep (fun _ wNoI => ?_) ?_
  simp only [↓ NoI.wrOf wNoI (by
  clear wNoI
  unfold endOf
  cases e : (rsN F x).find? fun j => decide (b ≤ j) with
  | none =>
    refine ⟨hb, Nat.le_refl _, .inl rfl, fun j h1 _ h2 => ?_⟩
    have := List.find?_eq_none.mp e j (mem_rsN.mpr h2)
    simp at this
    omega
  | some a =>
    have h1 := List.find?_some e
    simp only [decide_eq_true_eq] at h1
    have h2 := mem_rsN.mp (List.mem_of_find?_eq_some e)
    refine ⟨h1, Nat.le_of_lt (List.getElem?_eq_some_iff.mp h2).1, .inr h2, fun j g1 g2 g3 => ?_⟩
    have g2 : j < a := g2
    obtain ⟨as, bs, e1, e2⟩ := (List.find?_eq_some_iff_append.mp e).2
    have hj := mem_rsN.mpr g3
    have pw := rsN_pw F x
    rw [e1] at hj pw
    rcases List.mem_append.mp hj with hj | hj
    · have := e2 j hj
      simp at this
      omega
    · rw [List.pairwise_append] at pw
      rcases List.mem_cons.mp hj with hj | hj
      · omega
      · have := (List.pairwise_cons.mp pw.2.1).1 j hj
        omega
  )]
  intro _ hNoI
  simpa using (fun (_ : NoI.Sg) => hNoI) [5]
end LW

/-! the order of leases; contracts of what looks at fleets -/
namespace LW
open PySem PySem.Spec PyProof.Rows L2 SH
variable [WW]
theorem str_le_trans {a b c : List Nat} (h1 : ltCps b a = false) (h2 : ltCps c b = false) : ltCps c a = false := by
  refine NoI.keep (fun _ wNoI => ?_) ?_
  simp only [↓ NoI.wrOf wNoI (by
  clear wNoI
  rw [ltCps_eq, decide_eq_false_iff_not] at *
  exact fun h => by
    rcases Nat.lt_or_ge 0 0 with z | z
    · omega
    · have e1 : a ≤ b := List.not_lt.mp h1
      have e2 : b ≤ c := List.not_lt.mp h2
      exact List.not_lt.mpr (List.le_trans e1 e2) h
  )]
  intro _ hNoI
  simpa using (fun (_ : NoI.Sg) => hNoI) [5]
theorem rising_pw : ∀ (l : List Str) (p : Str), risingS p l = true → (p :: l).Pairwise fun a b => ltCps b.cps.toList a.cps.toList = false
  | [], p, _ => by simp
  | x :: r, p, h => by
    simp only [risingS, Bool.and_eq_true, Bool.not_eq_true'] at h
    have ih := rising_pw r x h.2
    refine List.pairwise_cons.mpr ⟨fun y hy => ?_, ih⟩
    rcases List.mem_cons.mp hy with rfl | hy
    · exact h.1
    · exact str_le_trans h.1 ((List.pairwise_cons.mp ih).1 y hy)
theorem sorted_pw : ∀ {l : List Str}, sortedS l = true → l.Pairwise fun a b => ltCps b.cps.toList a.cps.toList = false
  | [], _ => .nil
  | x :: r, h => rising_pw r x h
theorem lease_lt (x y : Str) (i j : Nat) : PySem.W.dataLt (leaseD (x, i)) (leaseD (y, j)) = if x = y then decide (i < j) else ltCps x.cps.toList y.cps.toList := by
  refine NoI.keep (fun _ wNoI => ?_) ?_
  simp only [↓ NoI.wrOf wNoI (by
  clear wNoI
  unfold leaseD
  rw [PySem.W.dataLt_pair rfl rfl]
  have e : PyData.eqv (.str x) (.str y) = decide (x = y) := by
    rw [Bool.eq_iff_iff]
    simp [PyData.eqv]
  rw [e, PySem.W.dataLt_str, PySem.W.dataLt_int, ltCps_eq]
  by_cases h : x = y
  · subst h
    rw [if_pos (by simp), if_pos rfl]
    by_cases h2 : i = j
    · subst h2
      rw [if_pos (by simp [PyData.eqv])]
      simp
    · rw [if_neg (by simp [PyData.eqv]; omega)]
      simp
  · rw [if_neg (by simpa using h), if_neg h]
  )]
  intro _ hNoI
  simpa using (fun (_ : NoI.Sg) => hNoI) [5]
theorem sortD_uniq {ds es : List D} (hp : es.Perm ds) (hs : es.Pairwise fun a b => PySem.W.dataLt b a = false) (inj : ∀ a b, a ∈ ds → b ∈ ds → PySem.W.dataLt b a = false → PySem.W.dataLt a b = false → a = b) : sortD ds = es := by
  refine NoI.keep (fun _ wNoI => ?_) ?_
  simp only [↓ NoI.wrOf wNoI (by
  clear wNoI
  have T := PySem.W.sortLe_total (PyProof.Rows.listOrd PyProof.Rows.itemOrd) false fun d : D => PySem.W.keyToks d
  have h1 : (sortD ds).Pairwise fun a b => PySem.W.dataLe false id a b = true := List.pairwise_mergeSort (fun a b c => T.trans a b c) (fun a b => by rw [Bool.or_eq_true]; exact T.total a b) ds
  refine List.Perm.eq_of_pairwise (le := fun a b => PySem.W.dataLe false id a b = true) (fun a b ha hb p q => inj a b ?_ ?_ ?_ ?_) h1 (hs.imp fun h => ?_) ((List.mergeSort_perm _ _).trans hp.symm)
  · exact (List.mergeSort_perm _ _).mem_iff.mp ha
  · exact hp.mem_iff.mp hb
  · simpa [PySem.W.dataLe_eq] using p
  · simpa [PySem.W.dataLe_eq] using q
  · simpa [PySem.W.dataLe_eq] using h
  )]
  intro _ hNoI
  simpa using (fun (_ : NoI.Sg) => hNoI) [5]
/-- the leases, service by service -/
def progL (F : Fleet) : List (Str × Nat) := F.names.flatMap fun x => (x, 0) :: (rsN F x).map fun j => (x, j + 1)
theorem mem_progL {F : Fleet} (hF : FOk F) (q : Str × Nat) : q ∈ progL F ↔ q ∈ allL F := by
  refine NoI.keep (fun _ wNoI => ?_) ?_
  simp only [↓ NoI.wrOf wNoI (by
  clear wNoI
  obtain ⟨x, k⟩ := q
  rw [mem_allL]
  unfold progL
  rw [List.mem_flatMap]
  constructor
  · rintro ⟨y, hy, h⟩
    rcases List.mem_cons.mp h with h | h
    · cases h; exact .inl ⟨hy, rfl⟩
    · obtain ⟨j, hj, e⟩ := List.mem_map.mp h
      cases e
      exact .inr ⟨by omega, by rw [Nat.add_sub_cancel]; exact mem_rsN.mp hj⟩
  · rintro (⟨h, rfl⟩ | ⟨h1, h2⟩)
    · exact ⟨x, h, List.mem_cons_self⟩
    · exact ⟨x, hF.rw _ (List.mem_of_getElem? h2), List.mem_cons_of_mem _ (List.mem_map.mpr ⟨k - 1, mem_rsN.mpr h2, by rw [show k - 1 + 1 = k by omega]⟩)⟩
  )]
  intro _ hNoI
  simpa using (fun (_ : NoI.Sg) => hNoI) [5]
theorem pw_flatMap {α β : Type} {R : β → β → Prop} {f : α → List β} : ∀ {l : List α}, (∀ a ∈ l, (f a).Pairwise R) → l.Pairwise (fun a b => ∀ x ∈ f a, ∀ y ∈ f b, R x y) → (l.flatMap f).Pairwise R
  | [], _, _ => .nil
  | a :: l, h1, h2 => by
    rw [List.flatMap_cons, List.pairwise_append]
    obtain ⟨h3, h4⟩ := List.pairwise_cons.mp h2
    refine ⟨h1 a List.mem_cons_self, pw_flatMap (fun b hb => h1 b (List.mem_cons_of_mem _ hb)) h4, fun x hx y hy => ?_⟩
    obtain ⟨b, hb, hy⟩ := List.mem_flatMap.mp hy
    exact h3 b hb x hx y hy
theorem progL_pw {F : Fleet} (hF : FOk F) : (progL F).Pairwise fun a b => PySem.W.dataLt (leaseD b) (leaseD a) = false ∧ a ≠ b := by
  refine NoI.keep (fun _ wNoI => ?_) ?_
  simp only [↓ NoI.wrOf wNoI (by
  clear wNoI
  unfold progL
  refine pw_flatMap (fun x hx => ?_) ?_
  · refine List.pairwise_cons.mpr ⟨fun q hq => ?_, ?_⟩
    · obtain ⟨j, hj, rfl⟩ := List.mem_map.mp hq
      rw [lease_lt, if_pos rfl]
      exact ⟨by simp, fun z => by cases z⟩
    · refine List.pairwise_map.mpr ((rsN_pw F x).imp fun h => ?_)
      rw [lease_lt, if_pos rfl]
      exact ⟨by simp; omega, fun z => by cases z; omega⟩
  · have := sorted_pw hF.so
    refine (this.and hF.nd).imp fun {x y} h a ha b hb => ?_
    have ea : a.1 = x := by
      rcases List.mem_cons.mp ha with rfl | ha
      · rfl
      · obtain ⟨j, _, rfl⟩ := List.mem_map.mp ha; rfl
    have eb : b.1 = y := by
      rcases List.mem_cons.mp hb with rfl | hb
      · rfl
      · obtain ⟨j, _, rfl⟩ := List.mem_map.mp hb; rfl
    obtain ⟨a1, a2⟩ := a
    obtain ⟨b1, b2⟩ := b
    simp only at ea eb
    subst ea eb
    rw [lease_lt, if_neg fun z => h.2 z.symm]
    exact ⟨h.1, fun z => h.2 (by cases z; rfl)⟩
  )]
  intro _ hNoI
  simpa using (fun (_ : NoI.Sg) => hNoI) [5]
theorem progL_perm {F : Fleet} (hF : FOk F) : (progL F).Perm (allL F) := perm_of ((progL_pw hF).imp fun h => h.2) (allL_nodup hF) (mem_progL hF)
theorem leases_prog {F : Fleet} (hF : FOk F) : leasesD F = (progL F).map leaseD := by
  refine NoI.keep (fun _ wNoI => ?_) ?_
  simp only [↓ NoI.wrOf wNoI (by
  clear wNoI
  refine sortD_uniq ((progL_perm hF).map leaseD) (List.pairwise_map.mpr ((progL_pw hF).imp fun h => h.1)) fun a b ha hb h1 h2 => ?_
  obtain ⟨⟨x, i⟩, _, rfl⟩ := List.mem_map.mp ha
  obtain ⟨⟨y, j⟩, _, rfl⟩ := List.mem_map.mp hb
  rw [lease_lt] at h1 h2
  by_cases e : x = y
  · subst e
    rw [if_pos rfl, decide_eq_false_iff_not] at h1 h2
    rw [show i = j by omega]
  · rw [if_neg (Ne.symm e)] at h1
    rw [if_neg e] at h2
    have hx : x.cps.toList = y.cps.toList := by
      rw [ltCps_eq, decide_eq_false_iff_not] at h1 h2
      exact List.le_antisymm (List.not_lt.mp h1) (List.not_lt.mp h2)
    exact absurd (PySem.W.str_of_cps hx) e
  )]
  intro _ hNoI
  simpa using (fun (_ : NoI.Sg) => hNoI) [5]
/-! ### contracts -/
def C_restarts_of : Ct := fun svs m Ψ => ∃ (F : Fleet) (x : Str), svs = [.dat F.d, .dat (.str x)] ∧ m = [] ∧ FOk F ∧ ∀ m', Ψ (.dat (.tuple (dI (nats (rsN F x))))) m'
def C_leases_of : Ct := fun svs m Ψ => ∃ F : Fleet, svs = [.dat F.d] ∧ m = [] ∧ FOk F ∧ ∀ m', Ψ (.dat (.tuple (leasesD F))) m'
end LW

namespace LW
open PySem PySem.Spec PyProof.Rows L2 SH
variable [WW]
def t_restarts_of (K : PySem.W.Frag) : TS :=
  (tRet (tCB (rTupU K) (tCons (tLc (iRng1 (tCons (tCall (spP K C_size) [] E0 (tCons (tVar 0) tNil)) tNil)) (gName 2) (tTest (tOp (rEqU K) (tOp (rIxU K) (tOp (rIxU K) (tVar 0) (tC (.int 2))) (tVar 2)) (tVar 1))) (tVar 2) [2]) tNil)))
def t_leases_of (K : PySem.W.Frag) : TS :=
  (tSeq (tAsg (tLst tNil) (gName 1))
  (tSeq (tFor (iSeq K (tOp (rIxU K) (tVar 0) (tC (.int 0)))) (gName 2)
    (tSeq (tDrop (tBM K "list" rAppend (tVar 1) (tCons (tTupF (tCons (tVar 2) (tCons (tC (.int 0)) tNil))) tNil)))
  (tDrop (tBM K "list" rExtend (tVar 1) (tCons (tLc (iSeq K (tCall (spP K C_restarts_of) [] E0 (tCons (tVar 0) (tCons (tVar 2) tNil)))) (gName 3) tYes (tTupF (tCons (tVar 2) (tCons (tOp (rAddU K) (tVar 3) (tC (.int 1))) tNil))) [3]) tNil)))))
  (tRet (tCB (rTupU K) (tCons (tVar 1) tNil)))))
end LW

end
section

local macro_rules | `(tactic| walk_at "ev1") => `(tactic| first
  | (with_reducible refine SH.ex_seq ?_)
  | (with_reducible refine SH.ev_orV ?_)
  | (with_reducible refine SH.ev_ckw ?_)
  | ((with_reducible show SH.MtS _ _ L2.rExtend _ _ _ _); refine SH.mt_extendS rfl rfl ?_ ?_; rotate_left 1)
  | ((with_reducible show SH.CbS _ _ SH.rTupR _ _ _); refine SH.cb_tupR rfl ?_ ?_ ?_; rotate_left 2)
  | (with_reducible refine SH.ev_notV ?_)
  | (with_reducible refine SH.ev_chain ?_)
  | (with_reducible refine SH.back ?_)
  | ((with_reducible show (true = true → _) ∧ (true = false → _)); refine ⟨fun _ => ?_, fun shh => Bool.noConfusion shh⟩)
  | ((with_reducible show (false = true → _) ∧ (false = false → _)); refine ⟨fun shh => Bool.noConfusion shh, fun _ => ?_⟩)
  | ((with_reducible show ((!true) = true → _) ∧ ((!true) = false → _)); refine ⟨fun shh => Bool.noConfusion shh, fun _ => ?_⟩)
  | ((with_reducible show ((!false) = true → _) ∧ ((!false) = false → _)); refine ⟨fun _ => ?_, fun shh => Bool.noConfusion shh⟩)
  | ((with_reducible show ∃ shE1 shE2, [_, _] = [shE1, shE2] ∧ _); refine ⟨_, _, rfl, ?_⟩)
  | ((with_reducible show ∃ shE1 shE2 shE3, [_, _, _] = [shE1, shE2, shE3] ∧ _); refine ⟨_, _, _, rfl, ?_⟩)
  | ((with_reducible show (∃ shE1, SH.rd _ _ = some (PySem.PyData.list shE1)) ∧ _); refine ⟨⟨_, rfl⟩, ?_⟩)
  | ((with_reducible show SH.MtS _ _ L2.rAppend _ _ _ _); refine SH.mt_appendS rfl ?_ ?_; rotate_left 1)
  | ((with_reducible show ∃ shE1 shE2, SH.rd _ (SH.SV.dat (PySem.PyData.bool _)) = some shE1 ∧ SH.truD shE1 = some shE2 ∧ _); refine ⟨_, _, rfl, rfl, by nofun, ?_⟩)
  | (with_reducible refine SH.ex_if ?_)
  | (with_reducible refine SH.ex_ret ?_)
  | (with_reducible refine SH.ex_drop ?_)
  | (with_reducible refine SH.ex_augS ?_)
  | (with_reducible refine SH.ex_put ?_)
  | ((with_reducible show SH.ExS _ _ _ (L2.tAsg _ (L2.gTup _ _ (L2.gCons (L2.gSub _ _ SH.rSetU) _))) _ _); refine SH.ex_asgT ?_)
  | ((with_reducible show SH.ExS _ _ _ (L2.tAsg _ (L2.gSub _ _ SH.rSetU)) _ _); refine SH.ex_asgT ?_)
  | (with_reducible refine SH.ex_asg ?_)
  | (with_reducible refine SH.ex_next ?_)
  | (with_reducible refine SH.ex_par ?_)
  | (with_reducible refine SH.ex_par3 ?_)
  | (with_reducible refine SH.ex_break ?_)
  | (with_reducible refine SH.ex_cont ?_)
  | (with_reducible refine SH.g_name ?_)
  | (with_reducible refine SH.gt_name ?_)
  | (with_reducible refine SH.gt_cons ?_)
  | (with_reducible refine SH.gt_nil ?_)
  | ((with_reducible refine SH.gt_tup (ds := ?shS) ?shA ?shB ?shD ?shC); (case shA => exact rfl); (case shB => exact rfl); (case shD => exact rfl))
  | (with_reducible refine SH.g_cons ?_)
  | (with_reducible refine SH.g_nil ?_)
  | ((with_reducible refine SH.g_tup (ds := ?shS) ?shA ?shB ?shD ?shC); (case shA => exact rfl); (case shB => exact rfl); (case shD => exact rfl))
  | (with_reducible refine SH.tt_test ?_)
  | (with_reducible refine SH.tt_tru ?_)
  | (with_reducible refine SH.tt_and ?_)
  | (with_reducible refine SH.tt_or ?_)
  | (with_reducible refine SH.tt_not ?_)
  | (with_reducible refine SH.tt_yes ?_)
  | (with_reducible refine SH.ev_isi (by decide) ?_)
  | (with_reducible refine SH.ev_dnew ?_)
  | (with_reducible refine SH.ev_disp1 ?_)
  | (with_reducible refine SH.ev_upper ?_)
  | (with_reducible refine SH.ev_int ?_)
  | (with_reducible refine SH.ev_str ?_)
  | (with_reducible refine SH.ev_bl ?_)
  | (with_reducible refine SH.ev_non ?_)
  | (with_reducible refine SH.ev_op ?_)
  | (with_reducible refine SH.ev_un ?_)
  | (with_reducible refine SH.ev_if ?_)
  | (with_reducible refine SH.ev_sl ?_)
  | (with_reducible refine SH.ev_cb ?_)
  | (with_reducible refine SH.ev_bmL ?_)
  | (with_reducible refine SH.ev_bmL0 ?_)
  | (with_reducible refine SH.ev_tupD ?_)
  | (with_reducible refine SH.ev_lstD ?_)
  | (with_reducible refine SH.ev_andV ?_)
  | (with_reducible refine SH.ev_join ?_)
  | (with_reducible refine SH.asD_dat ?_)
  | (with_reducible refine SH.ad_nil ?_)
  | (with_reducible refine SH.ad_cons ?_)
  | (with_reducible refine SH.ar_nil ?_)
  | (with_reducible refine SH.ar_cons ?_)
  | (with_reducible refine SH.pt_none ?_)
  | (with_reducible refine SH.pt_part ?_)
  | (with_reducible refine SH.it_range1 ?_)
  | (with_reducible refine SH.it_range2 ?_)
  | (with_reducible refine SH.it_seq ?_)
  | ((with_reducible refine SH.ev_var (sv := ?shS) ?shA ?shB ?shC); (case shA => exact rfl); (case shB => (intro z; cases z)))
  | ((with_reducible refine SH.ev_callBD (j := ?shS) ?shA ?shC); (case shA => exact rfl))
  | (with_reducible refine SH.ev_callD ?_)
  | ((with_reducible show ∃ shE1, SH.SV.dat (PySem.PyData.bool _) = SH.SV.dat (PySem.PyData.bool shE1) ∧ _); refine ⟨_, rfl, ?_⟩)
  | ((with_reducible show ∃ shE1, SH.SV.dat (PySem.PyData.int _) = SH.SV.dat (PySem.PyData.int shE1) ∧ _); refine ⟨_, rfl, ?_⟩)
  | ((with_reducible refine And.intro (a := _ ≤ PySem.sizeLine) ?shA ?shC); (case shA => (first | decide | (rw [PySem.sizeLine_eq]; simp only [List.length_cons, List.length_nil, List.length_append, List.length_map]; omega))))
  | ((with_reducible refine SH.asD_own (ds := ?shS) ?shA ?shC); (case shA => exact rfl))
  | ((with_reducible show SH.OpS _ _ (SH.rIxU _) _ _ _ _); first | refine SH.os_uL rfl rfl rfl ?_ | refine SH.os_uT rfl rfl rfl ?_)
  | ((with_reducible show SH.OpS _ _ (SH.rAddU _) _ _ _ _); first | refine SH.os_addI rfl rfl ?_ | (refine SH.os_addS rfl rfl ?_ ?_; rotate_left 1) | (refine SH.os_addL rfl rfl ?_ ?_; rotate_left 1) | (refine SH.os_addT rfl rfl ?_ ?_; rotate_left 1))
  | ((with_reducible show SH.OpS _ _ (SH.rMulX _) _ _ _ _); first | (refine SH.os_mxI rfl rfl ?_ ?_; rotate_left 1) | (refine SH.os_mxS rfl rfl ?_ ?_; rotate_left 1))
  | ((with_reducible show SH.OpS _ _ (SH.rEqU _) _ _ _ _); first | refine SH.os_eqI rfl rfl ?_ | refine SH.os_eqS rfl rfl ?_ | refine SH.os_eqO rfl rfl ?_)
  | ((with_reducible show SH.OpS _ _ (SH.rNeU _) _ _ _ _); first | refine SH.os_neI rfl rfl ?_ | refine SH.os_neS rfl rfl ?_ | refine SH.os_neO rfl rfl ?_)
  | ((with_reducible show SH.OpS _ _ _ _ _ _ _); first | refine SH.os_lt rfl rfl ?_ | refine SH.os_le rfl rfl ?_ | refine SH.os_gt rfl rfl ?_ | refine SH.os_ge rfl rfl ?_ | refine SH.os_sub rfl rfl ?_ | (refine SH.os_mod rfl rfl (by decide) ?_) | (refine SH.os_mod rfl rfl ?_ ?_; rotate_left 1) | (refine SH.os_div rfl rfl (by decide) (by decide) ?_) | (refine SH.os_div rfl rfl ?_ ?_ ?_; rotate_left 2) | (refine SH.os_pow rfl rfl ?_ ?_; rotate_left 1))
  | ((with_reducible show SH.UnS _ _ _ _ _ _); first | refine SH.un_neg' rfl ?_)
  | ((with_reducible show SH.SlS _ _ _ _ _ _ _ _); first | refine SH.sl_L rfl ?_ | refine SH.sl_T rfl ?_ | (refine SH.sl_S rfl ?_ ?_; rotate_left 1) | refine SH.sl_ro rfl ?_)
  | ((with_reducible show SH.CbS _ _ _ _ _ _); first | refine SH.cb_lenL rfl ?_ | refine SH.cb_lenT rfl ?_ | (refine SH.cb_lenS rfl ?_ ?_; rotate_left 1) | refine SH.cb_abs rfl ?_ | refine SH.cb_int rfl ?_ | refine SH.cb_listWL rfl ?_ | refine SH.cb_listWT rfl ?_ | refine SH.cb_tupL rfl ?_ | refine SH.cb_tupT rfl ?_ | refine SH.cb_min2 rfl rfl ?_ | refine SH.cb_max2 rfl rfl ?_ | refine SH.cb_rng1 rfl ?_ | refine SH.cb_rng2 rfl rfl ?_))
local macro_rules | `(tactic| walk_at "ev") => `(tactic| repeat walk_at "ev1")
local macro_rules | `(tactic| walk_at "wk") => `(tactic| (repeat' first | exact trivial | exact Or.inl rfl | (refine And.intro ?_ ?_) | exact Or.inr rfl | (refine Or.inr ⟨rfl, ?_⟩; intro j e; first | (cases e; done) | (cases e; show _ < _; first | decide | simp))))
local macro_rules | `(tactic| walk_at "nrm") => `(tactic| dsimp only [SH.S.fz, SH.SV.fz, List.map, List.set, SH.wipeS, List.cons_append, List.nil_append, List.length_cons, List.length_nil, Nat.beq, List.replicate])
local macro_rules | `(tactic| walk_at "go") => `(tactic| (walk_at "ev"; (try walk_at "nrm"); walk_at "ev"; (try walk_at "nrm"); walk_at "ev"; (try walk_at "nrm")))


namespace LW
open PySem PySem.Spec PyProof.Rows L2 SH
variable [WW]
def natG (p : Nat → Bool) (f : Nat → D) : D → Option D
  | .int i => if p i.toNat = true then some (f i.toNat) else none
  | _ => none
theorem filterMap_natG (p : Nat → Bool) (f : Nat → D) : ∀ l : List Nat, (dI (nats l)).filterMap (natG p f) = (l.filter p).map f
  | [] => rfl
  | j :: l => by
    have ih := filterMap_natG p f l
    have e : natG p f (.int (j : Int)) = if p j = true then some (f j) else none := rfl
    show (PyData.int (j : Int) :: dI (nats l)).filterMap (natG p f) = _
    rw [List.filterMap_cons, e, ih, List.filter_cons]
    by_cases h : p j = true
    · rw [if_pos h, if_pos h]; rfl
    · rw [if_neg h, if_neg h]
theorem rangeD0 (n : Nat) : rangeD 0 n = dI (nats (List.range n)) := by
  refine NoI.keep (fun _ wNoI => ?_) ?_
  simp only [↓ NoI.wrOf wNoI (by
  clear wNoI
  unfold rangeD dI nats
  rw [List.map_map]
  apply List.map_congr_left
  intro i _
  show PyData.int (0 + (i : Int)) = PyData.int (i : Int)
  rw [Int.zero_add]
  )]
  intro _ hNoI
  simpa using (fun (_ : NoI.Sg) => hNoI) [5]
theorem nats_at {l : List Nat} {i : Nat} {d : D} (h : (dI (nats l))[i]? = some d) : ∃ j, l[i]? = some j ∧ d = .int (j : Int) := by
  refine NoI.keep (fun _ wNoI => ?_) ?_
  simp only [↓ NoI.wrOf wNoI (by
  clear wNoI
  rw [dI, List.getElem?_map, nats, List.getElem?_map] at h
  cases e : l[i]? with
  | none => rw [e] at h; cases h
  | some j => rw [e] at h; cases h; exact ⟨j, rfl, rfl⟩
  )]
  intro _ hNoI
  simpa using (fun (_ : NoI.Sg) => hNoI) [5]
theorem int_nats (l : List Nat) : l.map (fun (j : Nat) => PyData.int (j : Int)) = dI (nats l) := by simp [dI, nats]
theorem row_nat {F : Fleet} {j : Nat} {x : Str} (h : F.row[j]? = some x) : atI (dS F.row) (j : Int) = some (.str x) := atI_nat (by rw [dS, List.getElem?_map, h]; rfl)
theorem rsN_len {F : Fleet} (hF : FOk F) (x : Str) : (rsN F x).length ≤ 60 := by
  refine NoI.keep (fun _ wNoI => ?_) ?_
  simp only [↓ NoI.wrOf wNoI (by
  clear wNoI
  have h := (List.length_filter_le (fun j => decide (F.row[j]? = some x)) (List.range F.row.length))
  rw [List.length_range] at h
  have := hF.rl
  exact Nat.le_trans h this
  )]
  intro _ hNoI
  simpa using (fun (_ : NoI.Sg) => hNoI) [5]
theorem wp_restarts_of {K : PySem.W.Frag} : ∀ Zc svs m Ψ, C_restarts_of svs m Ψ → ExS K Zc m.length (t_restarts_of K) ⟨svs ++ List.replicate (3 - svs.length) .un, m⟩ (retE Ψ) := by
  refine NoI.keep (fun _ wNoI => ?_) ?_
  simp only [↓ NoI.wrOf wNoI (by
  clear wNoI
  rintro Zc _ _ Ψ ⟨F, x, rfl, rfl, hF, k⟩
  unfold t_restarts_of
  show ExS _ _ _ _ ⟨[.dat F.d, .dat (.str x), .un], []⟩ _
  have hrl := hF.rl
  walk_at "go"
  refine ev_lcG (it_range1 ?_)
  walk_at "go"
  refine ⟨F, rfl, rfl, fun m' => back ?_⟩
  walk_at "go"
  refine ⟨_, rfl, by omega, by omega, natG (fun j => decide (F.row[j]? = some x)) (fun j => .int (j : Int)), by simp [rangeD] <;> omega, ?_, ?_⟩
  · rintro i d m' hd rfl
    obtain ⟨hj, rfl⟩ := rangeD_at hd
    have hj : i < F.row.length := by simpa using hj
    have hrow : F.row[i]? = some (F.row[i]'hj) := List.getElem?_eq_getElem hj
    walk_at "go"
    refine os_uT rfl rfl (row_nat hrow) ?_
    walk_at "go"
    have hp : (F.row[i]? = some x) ↔ F.row[i]'hj = x := by rw [hrow]; simp
    refine ⟨fun h => ?_, fun h => ?_⟩
    · have h := hp.mpr (of_decide_eq_true h)
      refine ⟨.int (i : Int), by simp [natG, h], ?_⟩
      walk_at "go"
      exact ⟨rfl, Wk.of (by walk_at "wk") (by walk_at "wk")⟩
    · have h : ¬ F.row[i]? = some x := fun z => of_decide_eq_false h (hp.mp z)
      exact ⟨by simp [natG, h], Wk.of (by walk_at "wk") (by walk_at "wk")⟩
  · walk_at "go"
    rw [rangeD0, filterMap_natG, int_nats, Int.toNat_natCast]
    exact k _
  )]
  intro _ hNoI
  simpa using (fun (_ : NoI.Sg) => hNoI) [5]
section
variable {sl : List SV} {mem : Mem} {Φ : SV → S → Prop} {b : Bag} {T j : Nat}
theorem use_restarts {F : Fleet} {x : Str} (hF : FOk F) (k : Φ (.dat (.tuple (dI (nats (rsN F x))))) ⟨sl, mem⟩) : C_restarts_of ([F.d, .str x].map SV.dat) [] (backP ⟨sl, mem⟩ Φ) := ⟨F, x, rfl, rfl, hF, fun m' => k⟩
end
/-- what leases_of has behind so many services -/
def progU (F : Fleet) (i : Nat) : List D := ((F.names.take i).flatMap fun x => (x, 0) :: (rsN F x).map fun j => (x, j + 1)).map leaseD
theorem progU_step {F : Fleet} {i : Nat} {x : Str} (h : F.names[i]? = some x) : progU F (i + 1) = progU F i ++ [leaseD (x, 0)] ++ (rsN F x).map fun j => leaseD (x, j + 1) := by
  unfold progU
  rw [List.take_add_one, h, List.flatMap_append, List.map_append]
  simp
theorem progU_len {F : Fleet} (hF : FOk F) (i : Nat) : (progU F i).length ≤ 70 := by
  refine NoI.keep (fun _ wNoI => ?_) ?_
  simp only [↓ NoI.wrOf wNoI (by
  clear wNoI
  unfold progU
  rw [List.length_map]
  have h1 : ((F.names.take i).flatMap fun x => (x, 0) :: (rsN F x).map fun j => (x, j + 1)).length ≤ (progL F).length := by
    unfold progL
    conv => rhs; rw [← List.take_append_drop i F.names, List.flatMap_append, List.length_append]
    exact Nat.le_add_right _ _
  have h2 := (progL_perm hF).length_eq
  have h3 : (allL F).length = F.names.length + F.row.length := by rw [allL, List.length_append, List.length_map, List.length_mapIdx]
  have := hF.n9
  have := hF.rl
  omega
  )]
  intro _ hNoI
  simpa using (fun (_ : NoI.Sg) => hNoI) [5]
theorem wp_leases_of {K : PySem.W.Frag} : ∀ Zc svs m Ψ, C_leases_of svs m Ψ → ExS K Zc m.length (t_leases_of K) ⟨svs ++ List.replicate (4 - svs.length) .un, m⟩ (retE Ψ) := by
  refine NoI.keep (fun _ wNoI => ?_) ?_
  simp only [↓ NoI.wrOf wNoI (by
  clear wNoI
  rintro Zc _ _ Ψ ⟨F, rfl, rfl, hF, k⟩
  unfold t_leases_of
  show ExS _ _ _ _ ⟨[.dat F.d, .un, .un, .un], []⟩ _
  refine ex_cut (fun s => s = ⟨[.dat F.d, .own 0, .un, .un], [some (.list (progU F 0))]⟩) ?_ ?_
  · walk_at "go"
    exact To.of _ rfl (by walk_at "wk") (by walk_at "wk") (by simp)
  rintro _ rfl _
  refine ex_cut (fun s => s = ⟨[.dat F.d, .own 0, .un, .un], [some (.list (progU F F.names.length))]⟩) ?_ ?_
  · refine ex_for (it_seq ?_)
    walk_at "go"
    refine ⟨_, rfl, fun i s => s = ⟨[.dat F.d, .own 0, .un, .un], [some (.list (progU F i))]⟩, To.of _ rfl (by walk_at "wk") (by walk_at "wk") (by simp), ?_, ?_⟩
    · rintro i d _ hd rfl _
      obtain ⟨x, hx, rfl⟩ := dS_at hd
      have hpl := progU_len hF i
      have hrs := rsN_len hF x
      have hp2 := progU_len hF (i + 1)
      rw [progU_step hx, List.length_append, List.length_append, List.length_map] at hp2
      refine g_name ?_
      walk_at "nrm"
      refine ex_cut (fun s => s = ⟨[.dat F.d, .own 0, .dat (.str x), .un], [some (.list (progU F i ++ [leaseD (x, 0)]))]⟩) ?_ ?_
      · walk_at "go"
        · exact To.of _ rfl (by walk_at "wk") (by walk_at "wk") (by simp)
        · exact small (by omega)
      rintro _ rfl _
      walk_at "go"
      refine ev_lcP (it_seq ?_)
      walk_at "go"
      refine use_restarts hF ?_
      walk_at "go"
      refine ⟨_, rfl, (rsN F x).map fun j => leaseD (x, j + 1), by simp [dI, nats], by rw [List.length_map]; omega, ?_, ?_⟩
      · rintro l e e' m' hi he rfl
        obtain ⟨j, hj, rfl⟩ := nats_at hi
        rw [List.getElem?_map, hj] at he
        cases he
        walk_at "go"
        exact ⟨rfl, Wk.of (by walk_at "wk") (by walk_at "wk")⟩
      · walk_at "go"
        · rw [← progU_step hx]
          exact To.of _ rfl (by walk_at "wk") (by walk_at "wk") (by simp)
        · exact small (by rw [List.length_append, List.length_map]; omega)
    · rintro _ rfl _
      rw [dS_len]
      exact To.of _ rfl (by walk_at "wk") (by walk_at "wk") (by simp)
  rintro _ rfl _
  walk_at "go"
  have e : progU F F.names.length = leasesD F := by
    rw [leases_prog hF, progU, List.take_length]
    rfl
  rw [e]
  exact k _
  )]
  intro _ hNoI
  simpa using (fun (_ : NoI.Sg) => hNoI) [5]
end LW


namespace LW
open PySem PySem.Spec PyProof.Rows L2 SH
variable [WW]
theorem end_ok {F : Fleet} (hF : FOk F) {q : Str × Nat} (h : q ∈ allL F) : q.2 ≤ endOf F q.1 q.2 ∧ endOf F q.1 q.2 ≤ F.row.length := by
  have := endOf_spec F q.1 q.2 (allL_ok hF h).2
  exact ⟨this.1, this.2.1⟩
section
variable {sl : List SV} {mem : Mem} {Φ : SV → S → Prop} {b : Bag} {T j : Nat}
end
end LW

namespace LW
open PySem PySem.Spec PyProof.Rows L2 SH
variable [WW]
theorem lease_shaped {F : Fleet} (hF : FOk F) {x : Str} (hx : x ∈ F.names) (k : Nat) : SeqAt.shaped (leaseD (x, k)) = true := by
  refine NoI.keep (fun _ wNoI => ?_) ?_
  simp only [↓ NoI.wrOf wNoI (by
  clear wNoI
  unfold SeqAt.shaped
  have h : (leaseD (x, k)).canLay0 = true := by
    show (PyData.strOk x && (true && true)) = true
    rw [strOk_name (hF.ok x hx)]
    rfl
  rw [h, decide_eq_true (by show 1 ≤ 64; decide)]
  rfl
  )]
  intro _ hNoI
  simpa using (fun (_ : NoI.Sg) => hNoI) [5]
theorem lease_eqv (q : Str × Nat) (x : Str) (k : Nat) : PyData.eqv (leaseD q) (leaseD (x, k)) = (decide (q.1 = x) && decide (q.2 = k)) := by
  show PyData.eqv (leaseD q) (.tuple [.str x, .int (k : Int)]) = _
  rw [eqv_lease]
  congr 1
  exact decide_eq_decide.mpr (by omega)
theorem lease_cases {F : Fleet} {q : Str × Nat} (h : q ∈ allL F) : q.2 = 0 ∨ F.row[q.2 - 1]? = some q.1 := by
  obtain ⟨x, k⟩ := q
  rcases mem_allL.mp h with ⟨_, h⟩ | ⟨_, h⟩
  · exact .inl h
  · exact .inr h
section
variable {sl : List SV} {mem : Mem} {Φ : SV → S → Prop} {b : Bag} {T j : Nat}
theorem use_leasesOf {F : Fleet} (hF : FOk F) (k : Φ (.dat (.tuple (leasesD F))) ⟨sl, mem⟩) : C_leases_of ([F.d].map SV.dat) [] (backP ⟨sl, mem⟩ Φ) := ⟨F, rfl, rfl, hF, fun m' => k⟩
end
end LW

/-! edits of plans -/
namespace LW
open PySem PySem.Spec PyProof.Rows L2 SH
variable [WW]
def spB (F : Fleet) (p : List Int) (k : Nat) : Int := (afterQ F (hopsB F p k)).2
section
variable {F : Fleet} {p : List Int} {x : Str} {k : Nat}
theorem st_succ (hp : PlanOk F p) : afterQ F (hopsB F p (k + 1)) = if (k : Int) ∈ p then stepQ F.names (afterQ F (hopsB F p k)) (F.row.getD k "") else afterQ F (hopsB F p k) := by
  rw [hopsB_succ hp]
  split
  · unfold afterQ; rw [List.foldl_append]; rfl
  · rw [List.append_nil]
theorem sp_free (hF : FOk F) (hp : PlanOk F p) (hx : x ∈ F.names) : machB F p x k ≠ spB F p k := by
  refine NoI.keep (fun _ wNoI => ?_) ?_
  simp only [↓ NoI.wrOf wNoI (by
  clear wNoI
  have h := afterQ_all hF (hops_word hF hp k)
  have nd := h.1.nodup_iff.mpr (nodup_upTo0 _)
  rw [machB_Q hF hp]
  intro e
  have g := idx_get hx h
  rw [e] at g
  exact (List.nodup_cons.mp nd).1 (List.mem_of_getElem? g)
  )]
  intro _ hNoI
  simpa using (fun (_ : NoI.Sg) => hNoI) [5]
theorem sp_succ (hF : FOk F) (hp : PlanOk F p) (h : F.row[k]? = some x) : spB F p (k + 1) = if (k : Int) ∈ p then machB F p x k else spB F p k := by
  refine NoI.keep (fun _ wNoI => ?_) ?_
  simp only [↓ NoI.wrOf wNoI (by
  clear wNoI
  unfold spB
  rw [st_succ hp]
  by_cases c : (k : Int) ∈ p
  · rw [if_pos c, if_pos c, machB_Q hF hp, List.getD_eq_getElem?_getD, h]
    rfl
  · rw [if_neg c, if_neg c]
  )]
  intro _ hNoI
  simpa using (fun (_ : NoI.Sg) => hNoI) [5]
/-- no hop from b up to e -/
def stillB (p : List Int) (b e : Nat) : Bool := !(p.any fun j => decide ((b : Int) ≤ j) && decide (j < (e : Int)))
theorem still_iff {b e : Nat} : stillB p b e = true ↔ ∀ k : Nat, b ≤ k → k < e → (k : Int) ∉ p := by
  refine NoI.keep (fun _ wNoI => ?_) ?_
  simp only [↓ NoI.wrOf wNoI (by
  clear wNoI
  unfold stillB
  rw [Bool.not_eq_true', List.any_eq_false]
  constructor
  · intro h k h1 h2 hk
    exact h _ hk (by simp; omega)
  · intro h j hj
    simp only [Bool.and_eq_true, decide_eq_true_eq]
    rintro ⟨h1, h2⟩
    exact h j.toNat (by omega) (by omega) (by rwa [Int.toNat_of_nonneg (by omega)])
  )]
  intro _ hNoI
  simpa using (fun (_ : NoI.Sg) => hNoI) [5]
theorem sp_still (hF : FOk F) (hp : PlanOk F p) {b e : Nat} (hb : b ≤ e) (he : e ≤ F.row.length) : stillB p b e = true ↔ ∀ k, b ≤ k → k ≤ e → spB F p k = spB F p b := by
  refine NoI.keep (fun _ wNoI => ?_) ?_
  simp only [↓ NoI.wrOf wNoI (by
  clear wNoI
  rw [still_iff]
  constructor
  · intro h k h1 h2
    induction k with
    | zero => rw [show b = 0 by omega]
    | succ k ih =>
      by_cases c : b = k + 1
      · rw [c]
      · have := ih (by omega) (by omega)
        rw [sp_succ hF hp (List.getElem?_eq_getElem (by omega)), if_neg (h k (by omega) (by omega))]
        exact this
  · intro h k h1 h2 hk
    have hx : F.row[k]? = some (F.row[k]'(by omega)) := List.getElem?_eq_getElem (by omega)
    have g := sp_succ hF hp hx
    rw [if_pos hk, h (k + 1) (by omega) (by omega), ← h k h1 (by omega)] at g
    exact sp_free hF hp (hF.rw _ (List.mem_of_getElem? hx)) g.symm
  )]
  intro _ hNoI
  simpa using (fun (_ : NoI.Sg) => hNoI) [5]
/-- the edited plan -/
def togI (F : Fleet) (p : List Int) (b e : Nat) : List Int := nats ((List.range F.row.length).filter fun j => xor (decide ((j : Int) ∈ p)) (decide (j + 1 = b ∨ j = e)))
theorem mem_tog {b e : Nat} {j : Nat} : (j : Int) ∈ togI F p b e ↔ j < F.row.length ∧ xor (decide ((j : Int) ∈ p)) (decide (j + 1 = b ∨ j = e)) = true := by
  refine NoI.keep (fun _ wNoI => ?_) ?_
  simp only [↓ NoI.wrOf wNoI (by
  clear wNoI
  unfold togI nats
  rw [List.mem_map]
  constructor
  · rintro ⟨i, hi, e⟩
    rw [show i = j by omega, List.mem_filter, List.mem_range] at hi
    exact hi
  · intro h
    exact ⟨j, by rw [List.mem_filter, List.mem_range]; exact h, rfl⟩
  )]
  intro _ hNoI
  simpa using (fun (_ : NoI.Sg) => hNoI) [5]
theorem nats_plan {l : List Nat} (h : l.Pairwise (· < ·)) (hl : ∀ j ∈ l, j < F.row.length) : PlanOk F (nats l) := by
  refine NoI.keep (fun _ wNoI => ?_) ?_
  simp only [↓ NoI.wrOf wNoI (by
  clear wNoI
  refine ⟨fun j hj => ?_, ?_⟩
  · obtain ⟨i, hi, rfl⟩ := List.mem_map.mp hj
    have := hl i hi
    omega
  · unfold nats
    exact List.pairwise_map.mpr (h.imp fun h => by omega)
  )]
  intro _ hNoI
  simpa using (fun (_ : NoI.Sg) => hNoI) [5]
theorem tog_ok {b e : Nat} : PlanOk F (togI F p b e) := nats_plan ((range_pw _).filter _) fun j hj => List.mem_range.mp (List.mem_filter.mp hj).1
theorem plan_ext {q : List Int} (hp : PlanOk F p) (hq : PlanOk F q) (h : ∀ j : Nat, (j : Int) ∈ p ↔ (j : Int) ∈ q) : p = q := by
  refine NoI.keep (fun _ wNoI => ?_) ?_
  simp only [↓ NoI.wrOf wNoI (by
  clear wNoI
  refine (perm_of (hp.a.imp fun h => Int.ne_of_lt h) (hq.a.imp fun h => Int.ne_of_lt h) fun j => ?_).eq_of_pairwise (le := fun a b => decide (a < b)) (fun a b _ _ h1 h2 => by have := of_decide_eq_true h1; have := of_decide_eq_true h2; omega) (hp.a.imp fun h => decide_eq_true h) (hq.a.imp fun h => decide_eq_true h)
  constructor
  · intro hj
    have := h j.toNat
    rw [Int.toNat_of_nonneg (hp.r j hj).1] at this
    exact this.mp hj
  · intro hj
    have := h j.toNat
    rw [Int.toNat_of_nonneg (hq.r j hj).1] at this
    exact this.mpr hj
  )]
  intro _ hNoI
  simpa using (fun (_ : NoI.Sg) => hNoI) [5]
end
/-- the leases that may be edited -/
def canQ (F : Fleet) (p : List Int) (ps : List (Str × Nat)) (q : Str × Nat) : Bool := decide (q.2 ≠ 0) && (!decide (q ∈ ps) && stillB p q.2 (endOf F q.1 q.2))
def pinsD (ps : List (Str × Nat)) : D := .tuple (ps.map leaseD)
structure PinsOk (F : Fleet) (ps : List (Str × Nat)) : Prop where
  al : ∀ q ∈ ps, q ∈ allL F
  ln : ps.length ≤ 70
def togQ (F : Fleet) (p : List Int) (q : Str × Nat) : List Int := togI F p q.2 (endOf F q.1 q.2)
/-! ### contracts -/
def C__law_end : Ct := fun svs m Ψ => ∃ (F : Fleet) (q : Str × Nat), svs = [.dat F.d, .dat (leaseD q)] ∧ m = [] ∧ FOk F ∧ q ∈ allL F ∧ ∀ m', Ψ (.dat (.int (endOf F q.1 q.2 : Int))) m'
def C__law_pins : Ct := fun svs m Ψ => ∃ (b : Bag) (T : Nat) (F : Fleet), svs = [.own 0, .dat F.d] ∧ m = [some b.d] ∧ WB (T + 71) b ∧ FOk F ∧
  ∀ m' (ps : List (Str × Nat)) (b' : Bag), PinsOk F ps → ps.Sublist ((leasesL F).filter fun q => decide (0 < q.2)) → WB T b' → m'[0]? = some (some b'.d) → Ψ (.dat (pinsD ps)) m'
end LW

namespace LW
open PySem PySem.Spec PyProof.Rows L2 SH
variable [WW]
def t__law_end (K : PySem.W.Frag) : TS :=
  (tSeq (tAsg (tVar 1) (gTup K 2 (gCons (gName 2) (gCons (gName 3) gNil))))
  (tSeq (tFor (iEnumU K (tCons (tOp (rIxU K) (tVar 0) (tC (.int 2))) tNil)) (gTup K 2 (gCons (gName 4) (gCons (gName 5) gNil)))
    (tIfS (tAnd (tTest (tOp (rI0 fun i j => .bl (decide (j ≤ i))) (tVar 4) (tVar 3))) (tTest (tOp (rEqU K) (tVar 5) (tVar 2))))
    (tRet (tVar 4))
    tNext))
  (tRet (tCB (rLenU K) (tCons (tOp (rIxU K) (tVar 0) (tC (.int 2))) tNil)))))
def t__law_pins (K : PySem.W.Frag) : TS :=
  (tSeq (tAsg (tTupF (tCons (tLc (iSeq K (tCall (spP K C__law_leases) [] E0 (tCons (tVar 1) tNil))) (gName 4) (tTest (tOp (rI0 fun i j => .bl (decide (j < i))) (tOp (rIxU K) (tVar 4) (tC (.int 1))) (tC (.int 0)))) (tVar 4) [4]) (tCons (tCall (spP K C__law_some) [] E0 (tCons (tVar 0) (tCons (tLst (tCons (tC (.int 0)) (tCons (tC (.int 4)) (tCons (tC (.int 2)) (tCons (tC (.int 8)) (tCons (tC (.int 1)) tNil)))))) tNil))) tNil))) (gTup K 2 (gCons (gName 2) (gCons (gName 3) gNil))))
  (tRet (tCB (rTupU K) (tCons (tLc (iSeq K (tVar 2)) (gName 4) (tAnd (tTest (tOp (rI0 fun i j => .bl (decide (j < i))) (tVar 3) (tC (.int 0)))) (tTest (tOp (rEqU K) (tCall (spP K C__law_take) [] E0 (tCons (tVar 0) (tCons (tVar 3) tNil))) (tC (.int 0))))) (tVar 4) [4]) tNil))))
end LW


namespace LW
open PySem PySem.Spec PyProof.Rows L2 SH
variable [WW]
section
variable {sl : List SV} {mem : Mem} {Φ : SV → S → Prop} {b : Bag} {T j : Nat}
end
theorem lease_canLay {F : Fleet} (hF : FOk F) {q : Str × Nat} (hq : q ∈ allL F) : (leaseD q).canLay0 = true := by
  show (PyData.strOk q.1 && (true && true)) = true
  rw [strOk_name (hF.ok _ (allL_ok hF hq).1)]
  rfl
theorem leases_canLay {F : Fleet} (hF : FOk F) : ∀ {ps : List (Str × Nat)}, (∀ q ∈ ps, q ∈ allL F) → PyData.canLayAll0 (ps.map leaseD) = true
  | [], _ => rfl
  | q :: ps, h => by
    show ((leaseD q).canLay0 && PyData.canLayAll0 (ps.map leaseD)) = true
    rw [lease_canLay hF (h q List.mem_cons_self), leases_canLay hF fun r hr => h r (List.mem_cons_of_mem _ hr)]
    rfl
theorem any_leaseQ (ps : List (Str × Nat)) (q : Str × Nat) : ((ps.map leaseD).any fun z => PyData.eqv z (leaseD q)) = decide (q ∈ ps) := by
  refine NoI.keep (fun _ wNoI => ?_) ?_
  simp only [↓ NoI.wrOf wNoI (by
  clear wNoI
  rw [List.any_map, Bool.eq_iff_iff, decide_eq_true_eq, List.any_eq_true]
  constructor
  · rintro ⟨r, hr, h⟩
    have h : PyData.eqv (leaseD r) (leaseD (q.1, q.2)) = true := h
    rw [lease_eqv, Bool.and_eq_true, decide_eq_true_eq, decide_eq_true_eq] at h
    rw [show q = r from Prod.ext h.1.symm h.2.symm]
    exact hr
  · intro h
    refine ⟨q, h, ?_⟩
    show PyData.eqv (leaseD q) (leaseD (q.1, q.2)) = true
    rw [lease_eqv, decide_eq_true rfl, decide_eq_true rfl]
    rfl
  )]
  intro _ hNoI
  simpa using (fun (_ : NoI.Sg) => hNoI) [5]
theorem os_inL {K : PySem.W.Frag} {Zc : Addr → Prop} {s : S} {x y : SV} {Φ : SV → S → Prop} {neg : Bool} {F : Fleet} {ps : List (Str × Nat)} {q : Str × Nat} {e : D} (hF : FOk F) (hq : q ∈ allL F) (hps : ∀ q ∈ ps, q ∈ allL F) (h1 : rd s.mem x = some (leaseD q)) (h2 : rd s.mem y = some e) (he : seqD e = some (ps.map leaseD))
    (k : Φ (.dat (.bool (if neg then !decide (q ∈ ps) else decide (q ∈ ps)))) s) : OpS K Zc (rInX K neg) x y s Φ := by
  refine os_inA (ds := ps.map leaseD) h1 h2 he (lease_canLay hF hq) (leases_canLay hF hps) (by show 1 ≤ 60; decide) ?_
  rw [any_leaseQ]
  exact k
theorem os_inQ {K : PySem.W.Frag} {Zc : Addr → Prop} {s : S} {x y : SV} {Φ : SV → S → Prop} {neg : Bool} {F : Fleet} {ps : List (Str × Nat)} {q : Str × Nat} (hF : FOk F) (hq : q ∈ allL F) (hps : PinsOk F ps) (h1 : rd s.mem x = some (leaseD q)) (h2 : rd s.mem y = some (pinsD ps))
    (k : Φ (.dat (.bool (if neg then !decide (q ∈ ps) else decide (q ∈ ps)))) s) : OpS K Zc (rInX K neg) x y s Φ := os_inL hF hq hps.al h1 h2 rfl k
def leaseG (P : Str × Nat → Bool) (d : D) : Option D := if P (leaseS d, leaseK d) = true then some d else none
theorem filterMap_leaseG (P : Str × Nat → Bool) : ∀ l : List (Str × Nat), (l.map leaseD).filterMap (leaseG P) = (l.filter P).map leaseD
  | [] => rfl
  | q :: l => by
    have ih := filterMap_leaseG P l
    rw [List.map_cons, List.filterMap_cons, leaseG, lease_undo, ih, List.filter_cons]
    cases P q <;> rfl
theorem leases_len {F : Fleet} (hF : FOk F) : (leasesD F).length ≤ 69 := by
  refine NoI.keep (fun _ wNoI => ?_) ?_
  simp only [↓ NoI.wrOf wNoI (by
  clear wNoI
  rw [← leasesL_map, List.length_map, (leasesL_perm F).length_eq, allL, List.length_append, List.length_map, List.length_mapIdx]
  have := hF.n9
  have := hF.rl
  omega
  )]
  intro _ hNoI
  simpa using (fun (_ : NoI.Sg) => hNoI) [5]
section
variable {sl : List SV} {mem : Mem} {Φ : SV → S → Prop} {b : Bag} {T j : Nat}
end
end LW


namespace LW
open PySem PySem.Spec PyProof.Rows L2 SH
variable [WW]
def intG (P : Int → Bool) : D → Option D
  | .int i => if P i = true then some (.int i) else none
  | _ => none
theorem intG_t {P : Int → Bool} {i : Int} (h : P i = true) : intG P (.int i) = some (.int i) := if_pos h
theorem intG_f {P : Int → Bool} {i : Int} (h : P i = false) : intG P (.int i) = none := if_neg (by rw [h]; exact Bool.false_ne_true)
theorem filterMap_intG (P : Int → Bool) : ∀ l : List Int, (dI l).filterMap (intG P) = dI (l.filter P)
  | [] => rfl
  | j :: l => by
    have ih := filterMap_intG P l
    show (PyData.int j :: dI l).filterMap (intG P) = _
    rw [List.filterMap_cons, show intG P (.int j) = if P j = true then some (.int j) else none from rfl, ih, List.filter_cons]
    cases P j <;> rfl
end LW


namespace LW
open PySem PySem.Spec PyProof.Rows L2 SH
variable [WW]
theorem endOf_uniq {F : Fleet} {x : Str} {b e : Nat} (hb : b ≤ F.row.length) (h1 : b ≤ e) (h2 : F.row[e]? = some x) (h3 : ∀ j, b ≤ j → j < e → F.row[j]? ≠ some x) : endOf F x b = e := by
  refine NoI.keep (fun _ wNoI => ?_) ?_
  simp only [↓ NoI.wrOf wNoI (by
  clear wNoI
  obtain ⟨e1, e2, e3, e4⟩ := endOf_spec F x b hb
  have hl := (List.getElem?_eq_some_iff.mp h2).1
  rcases Nat.lt_trichotomy (endOf F x b) e with h | h | h
  · rcases e3 with e3 | e3
    · omega
    · exact absurd e3 (h3 _ e1 h)
  · exact h
  · exact absurd h2 (e4 e h1 h)
  )]
  intro _ hNoI
  simpa using (fun (_ : NoI.Sg) => hNoI) [5]
theorem endOf_none {F : Fleet} {x : Str} {b : Nat} (hb : b ≤ F.row.length) (h3 : ∀ j, b ≤ j → j < F.row.length → F.row[j]? ≠ some x) : endOf F x b = F.row.length := by
  obtain ⟨e1, e2, e3, e4⟩ := endOf_spec F x b hb
  rcases e3 with e3 | e3
  · exact e3
  · exact absurd e3 (h3 _ e1 (List.getElem?_eq_some_iff.mp e3).1)
theorem wp__law_end {K : PySem.W.Frag} : ∀ Zc svs m Ψ, C__law_end svs m Ψ → ExS K Zc m.length (t__law_end K) ⟨svs ++ List.replicate (6 - svs.length) .un, m⟩ (retE Ψ) := by
  refine NoI.keep (fun _ wNoI => ?_) ?_
  simp only [↓ NoI.wrOf wNoI (by
  clear wNoI
  rintro Zc _ _ Ψ ⟨F, q, rfl, rfl, hF, hq, k⟩
  unfold t__law_end
  show ExS _ _ _ _ ⟨[.dat F.d, .dat (leaseD q), .un, .un, .un, .un], []⟩ _
  have hb := (allL_ok hF hq).2
  refine ex_cut (fun s => s = ⟨[.dat F.d, .dat (leaseD q), .dat (.str q.1), .dat (.int (q.2 : Int)), .un, .un], []⟩) ?_ ?_
  · walk_at "go"
    exact To.of _ rfl (by walk_at "wk") (by walk_at "wk") (by simp)
  rintro _ rfl _
  refine ex_cut (fun s => (∀ j, q.2 ≤ j → j < F.row.length → F.row[j]? ≠ some q.1) ∧ s = ⟨[.dat F.d, .dat (leaseD q), .dat (.str q.1), .dat (.int (q.2 : Int)), .un, .un], []⟩) ?_ ?_
  · refine ex_for (it_enum ?_)
    walk_at "go"
    refine ⟨_, _, rfl, rfl, fun i s => (∀ j, q.2 ≤ j → j < i → F.row[j]? ≠ some q.1) ∧ s = ⟨[.dat F.d, .dat (leaseD q), .dat (.str q.1), .dat (.int (q.2 : Int)), .un, .un], []⟩, To.of _ ⟨fun j _ h => by omega, rfl⟩ (by walk_at "wk") (by walk_at "wk") (by simp), ?_, ?_⟩
    · rintro i d _ hd ⟨hi, rfl⟩ _
      obtain ⟨hil, rfl⟩ := enum_row hd
      have hrow : F.row[i]? = some (F.row.getD i "") := by rw [List.getD_eq_getElem?_getD, List.getElem?_eq_getElem hil]; rfl
      walk_at "go"
      have stay : ¬ (q.2 ≤ i ∧ F.row.getD i "" = q.1) → ∀ j, q.2 ≤ j → j < i + 1 → F.row[j]? ≠ some q.1 := fun z j h1 h2 => by
        by_cases e : j = i
        · subst e
          rw [hrow]
          exact fun y => z ⟨h1, Option.some.inj y⟩
        · exact hi j h1 (by omega)
      refine ⟨fun h => ?_, fun h => ⟨fun z => (by cases z), fun _ => ?_⟩⟩
      · have h : q.2 ≤ i := by have := of_decide_eq_true h; omega
        walk_at "go"
        refine ⟨fun h2 => ?_, fun h2 => ?_⟩
        · have h2 : F.row.getD i "" = q.1 := of_decide_eq_true h2
          walk_at "go"
          rw [h2] at hrow
          rw [endOf_uniq hb h hrow hi] at k
          exact k _
        · have h2 : ¬ F.row.getD i "" = q.1 := of_decide_eq_false h2
          walk_at "go"
          exact To.of _ ⟨stay fun z => h2 z.2, rfl⟩ (by walk_at "wk") (by walk_at "wk") (by simp)
      · have h : ¬ q.2 ≤ i := by have := of_decide_eq_false h; omega
        walk_at "go"
        exact To.of _ ⟨stay fun z => h z.1, rfl⟩ (by walk_at "wk") (by walk_at "wk") (by simp)
    · rintro _ ⟨hi, rfl⟩ _
      have e : (enumD (dS F.row)).length = F.row.length := by simp [enumD, dS]
      rw [e] at hi
      exact To.of _ ⟨hi, rfl⟩ (by walk_at "wk") (by walk_at "wk") (by simp)
  rintro _ ⟨hi, rfl⟩ _
  walk_at "go"
  rw [endOf_none hb hi] at k
  rw [dS_len]
  exact k _
  )]
  intro _ hNoI
  simpa using (fun (_ : NoI.Sg) => hNoI) [5]
theorem wp__law_pins {K : PySem.W.Frag} : ∀ Zc svs m Ψ, C__law_pins svs m Ψ → ExS K Zc m.length (t__law_pins K) ⟨svs ++ List.replicate (5 - svs.length) .un, m⟩ (retE Ψ) := by
  refine NoI.keep (fun _ wNoI => ?_) ?_
  simp only [↓ NoI.wrOf wNoI (by
  clear wNoI
  rintro Zc _ _ Ψ ⟨b, T, F, rfl, rfl, hw, hF, k⟩
  unfold t__law_pins
  show ExS _ _ _ _ ⟨[.own 0, .dat F.d, .un, .un, .un], [some b.d]⟩ _
  have hll := leases_len hF
  refine ex_cut (fun s => ∃ (b' : Bag) (v : Int), 0 ≤ v ∧ v ≤ 8 ∧ WB (T + 70) b' ∧ s = ⟨[.own 0, .dat F.d, .dat (.list (((leasesL F).filter fun q => decide (0 < q.2)).map leaseD)), .dat (.int v), .un], [some b'.d]⟩) ?_ ?_
  · walk_at "go"
    refine ev_lcG (it_seq ?_)
    walk_at "go"
    refine ⟨F, rfl, rfl, hF, fun m' l hm => ?_⟩
    show (match m'[l]? with | some (some ds) => _ | _ => False)
    rw [hm]
    walk_at "go"
    refine ⟨_, rfl, leaseG fun q => decide (0 < q.2), by omega, ?_, ?_⟩
    · rintro i d m' hd rfl
      obtain ⟨q, _, rfl, hq⟩ := leases_at hd
      walk_at "go"
      refine ⟨fun h => ?_, fun h => ?_⟩
      · have h : (decide (0 < q.2)) = true := by have := of_decide_eq_true h; exact decide_eq_true (by omega)
        refine ⟨leaseD q, by rw [leaseG, lease_undo, if_pos h], ?_⟩
        walk_at "go"
        exact ⟨rfl, Wk.of (by walk_at "wk") (by walk_at "wk")⟩
      · have h : (decide (0 < q.2)) = false := by have := of_decide_eq_false h; exact decide_eq_false (by omega)
        exact ⟨by rw [leaseG, lease_undo, if_neg (by rw [h]; exact Bool.false_ne_true)], Wk.of (by walk_at "wk") (by walk_at "wk")⟩
    · rw [← leasesL_map, filterMap_leaseG]
      walk_at "go"
      refine use_some (T := T + 70) rfl (hw.less (by omega)) rfl (by nofun) (by simp) fun d b1 hd hw1 => ?_
      obtain ⟨v, h0, h8, rfl⟩ : ∃ v : Int, 0 ≤ v ∧ v ≤ 8 ∧ d = .int v := by
        simp at hd
        rcases hd with rfl | rfl | rfl | rfl | rfl
        · exact ⟨0, by decide, by decide, rfl⟩
        · exact ⟨4, by decide, by decide, rfl⟩
        · exact ⟨2, by decide, by decide, rfl⟩
        · exact ⟨8, by decide, by decide, rfl⟩
        · exact ⟨1, by decide, by decide, rfl⟩
      walk_at "go"
      exact To.of _ ⟨b1, v, h0, h8, hw1, rfl⟩ (by walk_at "wk") (by walk_at "wk") (by simp)
  rintro _ ⟨b1, v, h0, h8, hw1, rfl⟩ _
  have hfl : (((leasesL F).filter fun q => decide (0 < q.2)).map leaseD).length ≤ 69 := by
    rw [List.length_map]
    refine Nat.le_trans (List.length_filter_le _ _) ?_
    rw [← leasesL_map, List.length_map] at hll
    exact hll
  walk_at "go"
  refine ev_lc gw_name (it_seq ?_)
  walk_at "go"
  refine ⟨_, rfl, fun i s => ∃ (b' : Bag) (ps : List (Str × Nat)), (∀ q ∈ ps, q ∈ allL F) ∧ ps.length ≤ i ∧ ps.Sublist (((leasesL F).filter fun q => decide (0 < q.2)).take i) ∧ WB (T + 70 - i) b' ∧ s = ⟨[.own 0, .dat F.d, .dat (.list (((leasesL F).filter fun q => decide (0 < q.2)).map leaseD)), .dat (.int v), .un], [some b'.d, some (.list (ps.map leaseD))]⟩, ⟨b1, [], fun q h => absurd h List.not_mem_nil, Nat.zero_le _, List.nil_sublist _, hw1, rfl⟩, ?_, ?_⟩
  · rintro i d _ hd ⟨b2, ps, hps, hpl, hsub, hw2, rfl⟩ _
    have hil : i < 69 := Nat.lt_of_lt_of_le (List.getElem?_eq_some_iff.mp hd).1 hfl
    obtain ⟨q, hq, hqi, rfl⟩ : ∃ q, q ∈ allL F ∧ ((leasesL F).filter fun q => decide (0 < q.2))[i]? = some q ∧ d = leaseD q := by
      rw [List.getElem?_map] at hd
      cases e : ((leasesL F).filter fun q => decide (0 < q.2))[i]? with
      | none => rw [e] at hd; cases hd
      | some q =>
        rw [e] at hd
        cases hd
        exact ⟨q, (leasesL_perm F).mem_iff.mp (List.mem_filter.mp (List.mem_of_getElem? e)).1, rfl, rfl⟩
    have hstep : ((leasesL F).filter fun q => decide (0 < q.2)).take (i + 1) = ((leasesL F).filter fun q => decide (0 < q.2)).take i ++ [q] := by rw [List.take_add_one, hqi]; rfl
    have hkeep : ps.Sublist (((leasesL F).filter fun q => decide (0 < q.2)).take (i + 1)) := by rw [hstep]; exact hsub.trans (List.sublist_append_left _ _)
    walk_at "go"
    refine ⟨fun h => ?_, fun h => ⟨fun z => (by cases z), fun _ => ?_⟩⟩
    · have h : 0 < v := of_decide_eq_true h
      walk_at "go"
      refine use_take (T := T + 70 - (i + 1)) rfl (hw2.less (by omega)) h (by omega) fun u b3 u0 u1 hw3 => ?_
      walk_at "go"
      refine ⟨fun _ => ?_, fun _ => ?_⟩
      · walk_at "go"
        refine ⟨_, rfl, small (by rw [List.length_map]; omega), ?_⟩
        refine To.of _ ⟨b3, ps ++ [q], fun r hr => ?_, by simp; omega, by rw [hstep]; exact hsub.append (List.Sublist.refl _), hw3, rfl⟩ (by walk_at "wk") (by simp [WkMs]) (by simp)
        rcases List.mem_append.mp hr with hr | hr
        · exact hps r hr
        · simp at hr
          rw [hr]
          exact hq
      · exact To.of _ ⟨b3, ps, hps, by omega, hkeep, hw3, rfl⟩ (by walk_at "wk") (by walk_at "wk") (by simp)
    · exact To.of _ ⟨b2, ps, hps, by omega, hkeep, hw2.less (by omega), rfl⟩ (by walk_at "wk") (by walk_at "wk") (by simp)
  · rintro _ ⟨b2, ps, hps, hpl, hsub, hw2, rfl⟩
    walk_at "go"
    refine k _ ps b2 ⟨hps, by omega⟩ (hsub.trans (List.take_sublist _ _)) (hw2.less (by omega)) rfl
  )]
  intro _ hNoI
  simpa using (fun (_ : NoI.Sg) => hNoI) [5]
end LW


namespace LW
open PySem PySem.Spec PyProof.Rows L2 SH
variable [WW]
theorem eqvAll_dI : ∀ a b : List Int, PyData.eqvAll (dI a) (dI b) = decide (a = b)
  | [], [] => rfl
  | [], _ :: _ => by simp [dI, PyData.eqvAll]
  | _ :: _, [] => by simp [dI, PyData.eqvAll]
  | x :: a, y :: b => by
    have e : PyData.eqv (.int x) (.int y) = decide (x = y) := by
      rw [Bool.eq_iff_iff]
      simp [PyData.eqv]
    show PyData.eqvAll (.int x :: dI a) (.int y :: dI b) = _
    rw [PyData.eqvAll, e, eqvAll_dI a b]
    by_cases h : x = y <;> simp [h]
theorem eqv_ints (a b : List Int) : PyData.eqv (.list (dI a)) (.list (dI b)) = decide (a = b) := by
  rw [PyData.eqv]
  exact eqvAll_dI a b
theorem shaped_dI (a : List Int) : SeqAt.shaped (.list (dI a)) = true := by
  refine NoI.keep (fun _ wNoI => ?_) ?_
  simp only [↓ NoI.wrOf wNoI (by
  clear wNoI
  have h1 : ∀ ms : List Int, PyData.canLayAll0 (dI ms) = true := by
    intro ms
    induction ms with
    | nil => rfl
    | cons m ms ih => simp [dI, PyData.canLayAll0, PyData.canLay0] at ih ⊢; exact ih
  have h2 : ∀ ms : List Int, PyData.depthAll (dI ms) = 0 := by
    intro ms
    induction ms with
    | nil => rfl
    | cons m ms ih => simp [dI, PyData.depthAll, PyData.depth] at ih ⊢; exact ih
  unfold SeqAt.shaped PyData.canLay0 PyData.depth
  rw [h1, h2]
  rfl
  )]
  intro _ hNoI
  simpa using (fun (_ : NoI.Sg) => hNoI) [5]
def sparesI (F : Fleet) (p : List Int) (b e : Nat) : List Int := (fromTo b e).map (spB F p)
theorem spares_cut {F : Fleet} {p : List Int} {b e : Nat} (h1 : b ≤ e) (h2 : e ≤ F.row.length) : SH.cutD (dI (standsF F p)) (some (b : Int)) (some ((e : Int) + 1)) = dI (sparesI F p b e) := by
  refine NoI.keep (fun _ wNoI => ?_) ?_
  simp only [↓ NoI.wrOf wNoI (by
  clear wNoI
  have hl : (dI (standsF F p)).length = F.row.length + 1 := by rw [dI_len, standsF_len]
  unfold SH.cutD
  rw [show ((e : Int) + 1) = ((e + 1 : Nat) : Int) by omega, HT.sIx_nat, HT.sIx_nat, hl, Nat.min_eq_left (by omega), Nat.min_eq_left (by omega)]
  unfold sparesI fromTo dI standsF
  rw [List.map_map, List.map_map, ← List.map_drop, ← List.map_take]
  have : ((List.range (F.row.length + 1)).drop b).take (e + 1 - b) = List.range' b (e + 1 - b) := by
    apply List.ext_getElem?
    intro i
    rw [List.getElem?_take]
    by_cases hi : i < e + 1 - b
    · rw [if_pos hi, List.getElem?_drop, List.getElem?_range (by omega), List.getElem?_range' (by omega)]
      simp
    · rw [if_neg hi, List.getElem?_eq_none (by rw [List.length_range']; omega)]
  rw [this]
  rfl
  )]
  intro _ hNoI
  simpa using (fun (_ : NoI.Sg) => hNoI) [5]
theorem spares_same {F : Fleet} {p : List Int} (hF : FOk F) (hp : PlanOk F p) {b e : Nat} (h1 : b ≤ e) (h2 : e ≤ F.row.length) : decide (sparesI F p b e = (List.replicate (sparesI F p b e).length ((sparesI F p b e).take 1)).flatten) = stillB p b e := by
  refine NoI.keep (fun _ wNoI => ?_) ?_
  simp only [↓ NoI.wrOf wNoI (by
  clear wNoI
  have e1 : (sparesI F p b e).take 1 = [spB F p b] := by
    unfold sparesI fromTo
    rw [show e + 1 - b = (e - b) + 1 by omega, List.range'_succ]
    rfl
  have e2 : ∀ n, (List.replicate n [spB F p b]).flatten = List.replicate n (spB F p b) := fun n => by
    induction n with
    | zero => rfl
    | succ n ih => rw [List.replicate_succ, List.flatten_cons, ih, List.replicate_succ]; rfl
  rw [e1, e2, Bool.eq_iff_iff, decide_eq_true_eq, List.eq_replicate_iff, sp_still hF hp h1 h2]
  constructor
  · rintro ⟨_, h⟩ k h3 h4
    exact h _ (List.mem_map.mpr ⟨k, mem_fromTo.mpr ⟨h3, h4⟩, rfl⟩)
  · intro h
    refine ⟨rfl, fun v hv => ?_⟩
    obtain ⟨k, hk, rfl⟩ := List.mem_map.mp hv
    obtain ⟨h3, h4⟩ := mem_fromTo.mp hk
    exact h k h3 h4
  )]
  intro _ hNoI
  simpa using (fun (_ : NoI.Sg) => hNoI) [5]
theorem rep_take (l : List Int) (n : Nat) : (List.replicate n ((dI l).take 1)).flatten = dI (List.replicate n (l.take 1)).flatten := by
  unfold dI
  rw [List.map_flatten, List.map_replicate, List.map_take]
section
variable {sl : List SV} {mem : Mem} {Φ : SV → S → Prop} {b : Bag} {T j : Nat}
theorem use_endL {F : Fleet} {q : Str × Nat} (hF : FOk F) (hq : q ∈ allL F) (k : Φ (.dat (.int (endOf F q.1 q.2 : Int))) ⟨sl, mem⟩) : C__law_end ([F.d, leaseD q].map SV.dat) [] (backP ⟨sl, mem⟩ Φ) := ⟨F, q, rfl, rfl, hF, hq, fun m' => k⟩
end
end LW


namespace LW
open PySem PySem.Spec PyProof.Rows L2 SH
variable [WW]
end LW


namespace LW
open PySem PySem.Spec PyProof.Rows L2 SH
variable [WW]
section
variable {sl : List SV} {mem : Mem} {Φ : SV → S → Prop} {b : Bag} {T j : Nat}
theorem use_pins {F : Fleet} (hm : mem[j]? = some (some b.d)) (hw : WB (T + 71) b) (hF : FOk F)
    (k : ∀ (ps : List (Str × Nat)) (b' : Bag), PinsOk F ps → WB T b' → Φ (.dat (pinsD ps)) ⟨sl, mem.set j (some b'.d)⟩) :
    ∃ bs, mem[j]? = some (some bs) ∧ C__law_pins (.own 0 :: [F.d].map SV.dat) [some bs] (backB ⟨sl, mem⟩ j Φ) :=
  ⟨_, hm, b, T, F, rfl, rfl, hw, hF, fun m' p b' h1 _ hw' hm' => ⟨_, _, rfl, hm', k p b' h1 hw'⟩⟩
end
theorem editQ_in {F : Fleet} (p : List Int) (ps : List (Str × Nat)) : ∀ q ∈ (leasesL F).filter (canQ F p ps), q ∈ allL F := fun q hq => (leasesL_perm F).mem_iff.mp (List.mem_filter.mp hq).1
theorem editQ_len {F : Fleet} (hF : FOk F) (p : List Int) (ps : List (Str × Nat)) : ((leasesL F).filter (canQ F p ps)).length ≤ 69 := by
  have := leases_len hF
  rw [← leasesL_map, List.length_map] at this
  exact Nat.le_trans (List.length_filter_le _ _) this
end LW

/-! scripts of edits -/
namespace LW
open PySem PySem.Spec PyProof.Rows L2 SH
variable [WW]
abbrev Lq := Str × Nat
def q0 : Lq := ("", 0)
structure ScrOk (F : Fleet) (qs : List Lq) : Prop where
  al : ∀ q ∈ qs, q ∈ allL F
  ln : qs.length ≤ 1000000
section
variable {F : Fleet} {p : List Int} {ps qs : List Lq} {i : Nat}
end
/-! ### contracts -/
end LW

namespace LW
open PySem PySem.Spec PyProof.Rows L2 SH
variable [WW]
end LW


namespace LW
open PySem PySem.Spec PyProof.Rows L2 SH
variable [WW]
section
variable {sl : List SV} {mem : Mem} {Φ : SV → S → Prop} {b : Bag} {T j : Nat}
end
section
variable {sl : List SV} {mem : Mem} {Φ : SV → S → Prop} {b : Bag} {T j : Nat}
end
end LW


namespace LW
open PySem PySem.Spec PyProof.Rows L2 SH
variable [WW]
end LW


namespace LW
open PySem PySem.Spec PyProof.Rows L2 SH
variable [WW]
section
variable {F : Fleet} {p : List Int} {ps : List Lq} {q : Lq} {N : Nat} {r : List Lq}
end
section
variable {sl : List SV} {mem : Mem} {Φ : SV → S → Prop} {b : Bag} {T j : Nat}
end
end LW


namespace LW
open PySem PySem.Spec PyProof.Rows L2 SH
variable [WW]
/-- so many leases at most -/
structure Ls (F : Fleet) (n : Nat) (ds : List D) : Prop where
  al : ∀ e ∈ ds, ∃ q, q ∈ allL F ∧ e = leaseD q
  ln : ds.length ≤ n
section
variable {F : Fleet} {n m : Nat} {ds es : List D}
theorem Ls.cut (h : Ls F n ds) (lo hi : Option Int) : Ls F n (SH.cutD ds lo hi) := ⟨fun e he => h.al e (cut_sub.subset he), Nat.le_trans (cut_sub.length_le) h.ln⟩
theorem Ls.app (h : Ls F n ds) (g : Ls F m es) : Ls F (n + m) (ds ++ es) := ⟨fun e he => (List.mem_append.mp he).elim (h.al e) (g.al e), by rw [List.length_append]; have := h.ln; have := g.ln; omega⟩
theorem Ls.rep {q : Lq} (hq : q ∈ allL F) (k : Nat) : Ls F k (List.replicate k (leaseD q)) := ⟨fun e he => ⟨q, hq, List.eq_of_mem_replicate he⟩, by rw [List.length_replicate]; exact Nat.le_refl _⟩
theorem Ls.less (h : Ls F n ds) (k : n ≤ m) : Ls F m ds := ⟨h.al, Nat.le_trans h.ln k⟩
theorem Ls.of {qs : List Lq} (h : ∀ q ∈ qs, q ∈ allL F) (hl : qs.length ≤ n) : Ls F n (qs.map leaseD) := ⟨fun e he => by
  obtain ⟨q, hq, rfl⟩ := List.mem_map.mp he
  exact ⟨q, h q hq, rfl⟩, by rw [List.length_map]; exact hl⟩
end
section
variable {sl : List SV} {mem : Mem} {Φ : SV → S → Prop} {b : Bag} {T j : Nat}
end
section
variable {K : PySem.W.Frag} {Zc : Addr → Prop} {s : S} {x y : SV} {Φ : SV → S → Prop}
end
end LW

end
section

local macro_rules | `(tactic| walk_at "ev1") => `(tactic| first
  | (with_reducible refine SH.ex_seq ?_)
  | (with_reducible refine SH.ex_if ?_)
  | (with_reducible refine SH.ex_ret ?_)
  | (with_reducible refine SH.ex_drop ?_)
  | (with_reducible refine SH.ex_augS ?_)
  | (with_reducible refine SH.ex_put ?_)
  | ((with_reducible show SH.ExS _ _ _ (L2.tAsg _ (L2.gTup _ _ (L2.gCons (L2.gSub _ _ SH.rSetU) _))) _ _); refine SH.ex_asgT ?_)
  | ((with_reducible show SH.ExS _ _ _ (L2.tAsg _ (L2.gSub _ _ SH.rSetU)) _ _); refine SH.ex_asgT ?_)
  | (with_reducible refine SH.ex_asg ?_)
  | (with_reducible refine SH.ex_next ?_)
  | (with_reducible refine SH.ex_par ?_)
  | (with_reducible refine SH.ex_par3 ?_)
  | (with_reducible refine SH.ex_break ?_)
  | (with_reducible refine SH.ex_cont ?_)
  | (with_reducible refine SH.g_name ?_)
  | (with_reducible refine SH.gt_name ?_)
  | (with_reducible refine SH.gt_cons ?_)
  | (with_reducible refine SH.gt_nil ?_)
  | ((with_reducible refine SH.gt_tup (ds := ?shS) ?shA ?shB ?shD ?shC); (case shA => exact rfl); (case shB => exact rfl); (case shD => exact rfl))
  | (with_reducible refine SH.g_cons ?_)
  | (with_reducible refine SH.g_nil ?_)
  | ((with_reducible refine SH.g_tup (ds := ?shS) ?shA ?shB ?shD ?shC); (case shA => exact rfl); (case shB => exact rfl); (case shD => exact rfl))
  | (with_reducible refine SH.tt_test ?_)
  | (with_reducible refine SH.tt_tru ?_)
  | (with_reducible refine SH.tt_and ?_)
  | (with_reducible refine SH.tt_or ?_)
  | (with_reducible refine SH.tt_not ?_)
  | (with_reducible refine SH.tt_yes ?_)
  | (with_reducible refine SH.ev_int ?_)
  | (with_reducible refine SH.ev_str ?_)
  | (with_reducible refine SH.ev_bl ?_)
  | (with_reducible refine SH.ev_non ?_)
  | (with_reducible refine SH.ev_op ?_)
  | (with_reducible refine SH.ev_un ?_)
  | (with_reducible refine SH.ev_if ?_)
  | (with_reducible refine SH.ev_sl ?_)
  | (with_reducible refine SH.ev_cb ?_)
  | (with_reducible refine SH.ev_bmL ?_)
  | (with_reducible refine SH.ev_bmL0 ?_)
  | (with_reducible refine SH.ev_tupD ?_)
  | (with_reducible refine SH.ev_lstD ?_)
  | (with_reducible refine SH.ev_andV ?_)
  | (with_reducible refine SH.ev_join ?_)
  | (with_reducible refine SH.asD_dat ?_)
  | (with_reducible refine SH.ad_nil ?_)
  | (with_reducible refine SH.ad_cons ?_)
  | (with_reducible refine SH.ar_nil ?_)
  | (with_reducible refine SH.ar_cons ?_)
  | (with_reducible refine SH.pt_none ?_)
  | (with_reducible refine SH.pt_part ?_)
  | (with_reducible refine SH.it_range1 ?_)
  | (with_reducible refine SH.it_range2 ?_)
  | (with_reducible refine SH.it_seq ?_)
  | ((with_reducible refine SH.ev_var (sv := ?shS) ?shA ?shB ?shC); (case shA => exact rfl); (case shB => (intro z; cases z)))
  | ((with_reducible refine SH.ev_callBD (j := ?shS) ?shA ?shC); (case shA => exact rfl))
  | (with_reducible refine SH.ev_callD ?_)
  | ((with_reducible show ∃ shE1, SH.SV.dat (PySem.PyData.bool _) = SH.SV.dat (PySem.PyData.bool shE1) ∧ _); refine ⟨_, rfl, ?_⟩)
  | ((with_reducible show ∃ shE1, SH.SV.dat (PySem.PyData.int _) = SH.SV.dat (PySem.PyData.int shE1) ∧ _); refine ⟨_, rfl, ?_⟩)
  | ((with_reducible refine And.intro (a := _ ≤ PySem.sizeLine) ?shA ?shC); (case shA => (first | decide | (rw [PySem.sizeLine_eq]; simp only [List.length_cons, List.length_nil, List.length_append, List.length_map]; omega))))
  | ((with_reducible refine SH.asD_own (ds := ?shS) ?shA ?shC); (case shA => exact rfl))
  | ((with_reducible show SH.OpS _ _ (SH.rIxU _) _ _ _ _); first | refine SH.os_uL rfl rfl rfl ?_ | refine SH.os_uT rfl rfl rfl ?_)
  | ((with_reducible show SH.OpS _ _ (SH.rAddU _) _ _ _ _); first | refine SH.os_addI rfl rfl ?_ | (refine SH.os_addS rfl rfl ?_ ?_; rotate_left 1) | (refine SH.os_addL rfl rfl ?_ ?_; rotate_left 1) | (refine SH.os_addT rfl rfl ?_ ?_; rotate_left 1))
  | ((with_reducible show SH.OpS _ _ (SH.rMulX _) _ _ _ _); first | (refine SH.os_mxI rfl rfl ?_ ?_; rotate_left 1) | (refine SH.os_mxS rfl rfl ?_ ?_; rotate_left 1))
  | ((with_reducible show SH.OpS _ _ (SH.rEqU _) _ _ _ _); first | refine SH.os_eqI rfl rfl ?_ | refine SH.os_eqS rfl rfl ?_)
  | ((with_reducible show SH.OpS _ _ (SH.rNeU _) _ _ _ _); first | refine SH.os_neI rfl rfl ?_ | refine SH.os_neS rfl rfl ?_)
  | ((with_reducible show SH.OpS _ _ _ _ _ _ _); first | refine SH.os_lt rfl rfl ?_ | refine SH.os_le rfl rfl ?_ | refine SH.os_gt rfl rfl ?_ | refine SH.os_ge rfl rfl ?_ | refine SH.os_sub rfl rfl ?_ | (refine SH.os_mod rfl rfl (by decide) ?_) | (refine SH.os_mod rfl rfl ?_ ?_; rotate_left 1) | (refine SH.os_div rfl rfl (by decide) (by decide) ?_) | (refine SH.os_div rfl rfl ?_ ?_ ?_; rotate_left 2) | (refine SH.os_pow rfl rfl ?_ ?_; rotate_left 1))
  | ((with_reducible show SH.UnS _ _ _ _ _ _); first | refine SH.un_neg' rfl ?_)
  | ((with_reducible show SH.SlS _ _ _ _ _ _ _ _); first | refine SH.sl_L rfl ?_ | refine SH.sl_T rfl ?_ | (refine SH.sl_S rfl ?_ ?_; rotate_left 1) | refine SH.sl_ro rfl ?_)
  | ((with_reducible show SH.CbS _ _ _ _ _ _); first | refine SH.cb_lenL rfl ?_ | refine SH.cb_lenT rfl ?_ | (refine SH.cb_lenS rfl ?_ ?_; rotate_left 1) | refine SH.cb_abs rfl ?_ | refine SH.cb_int rfl ?_ | refine SH.cb_listWL rfl ?_ | refine SH.cb_listWT rfl ?_ | refine SH.cb_tupL rfl ?_ | refine SH.cb_tupT rfl ?_ | refine SH.cb_rng1 rfl ?_ | refine SH.cb_rng2 rfl rfl ?_))
local macro_rules | `(tactic| walk_at "ev") => `(tactic| repeat walk_at "ev1")
local macro_rules | `(tactic| walk_at "wk") => `(tactic| (repeat' first | exact trivial | exact Or.inl rfl | (refine And.intro ?_ ?_) | exact Or.inr rfl | (refine Or.inr ⟨rfl, ?_⟩; intro j e; first | (cases e; done) | (cases e; show _ < _; first | decide | simp))))
local macro_rules | `(tactic| walk_at "nrm") => `(tactic| dsimp only [SH.S.fz, SH.SV.fz, List.map, List.set, SH.wipeS, List.cons_append, List.nil_append, List.length_cons, List.length_nil, Nat.beq, List.replicate])
local macro_rules | `(tactic| walk_at "go") => `(tactic| (walk_at "ev"; (try walk_at "nrm"); walk_at "ev"; (try walk_at "nrm"); walk_at "ev"; (try walk_at "nrm")))

namespace LW
open PySem PySem.Spec PyProof.Rows L2 SH
variable [WW]
def t__law_names_v2 (K : PySem.W.Frag) : TS :=
  (tSeq (tAsg (tTupF (tCons (tC (.str "abcdefghijklmnopqrstuvwxyz")) (tCons (tCall (spP K C__law_take) [] E0 (tCons (tVar 0) (tCons (tC (.int 4)) tNil))) (tCons (tCall (spP K C__law_take) [] E0 (tCons (tVar 0) (tCons (tC (.int 26)) tNil))) tNil)))) (gTup K 3 (gCons (gName 2) (gCons (gName 3) (gCons (gName 4) gNil)))))
  (tSeq (tIfS (tTest (tOp (rEqU K) (tVar 3) (tC (.int 0))))
    (tAsg (tLc (iRng1 (tCons (tVar 1) tNil)) (gName 7) tYes (tOp (rIxU K) (tVar 2) (tOp (rI (fun _ j => j ≠ 0) fun i j => .int (i.fmod j)) (tCB (rInt1) (tCons (tOp (rAddU K) (tVar 4) (tVar 7)) tNil)) (tC (.int 26)))) [7]) (gName 5))
    (tIfS (tTest (tOp (rEqU K) (tVar 3) (tC (.int 1))))
    (tAsg (tLc (iRng1 (tCons (tVar 1) tNil)) (gName 7) tYes (tOp (rMulX K) (tOp (rIxU K) (tVar 2) (tVar 4)) (tOp (rAddU K) (tVar 7) (tC (.int 1)))) [7]) (gName 5))
    (tIfS (tTest (tOp (rEqU K) (tVar 3) (tC (.int 2))))
    (tSeq (tAsg (tM1 (rJoin K) (tC (.str "")) (tLc (iRng1 (tCons (tCall (spP K C__law_take) [] E0 (tCons (tVar 0) (tCons (tC (.int 12)) tNil))) tNil)) (gName 8) tYes (tCall (spP K C__law_some) [] E0 (tCons (tVar 0) (tCons (tVar 2) tNil))) [8])) (gName 6))
  (tAsg (tLc (iRng1 (tCons (tVar 1) tNil)) (gName 7) tYes (tOp (rAddU K) (tVar 6) (tOp (rIxU K) (tVar 2) (tOp (rI (fun _ j => j ≠ 0) fun i j => .int (i.fmod j)) (tCB (rInt1) (tCons (tOp (rAddU K) (tVar 4) (tVar 7)) tNil)) (tC (.int 26))))) [7]) (gName 5)))
    (tAsg (tLc (iRng1 (tCons (tVar 1) tNil)) (gName 7) tYes (tOp (rAddU K) (tOp (rIxU K) (tVar 2) (tOp (rI (fun _ j => j ≠ 0) fun i j => .int (i.fmod j)) (tCB (rInt1) (tCons (tOp (rAddU K) (tVar 4) (tVar 7)) tNil)) (tC (.int 26)))) (tCall (spP K C__law_some) [] E0 (tCons (tVar 0) (tCons (tLst (tCons (tC (.str "")) (tCons (tC (.str "z")) (tCons (tC (.str "mail")) (tCons (tSl (rSlU K) (tVar 2) tNoPart (tPart (tC (.int 11)))) tNil))))) tNil)))) [7]) (gName 5)))))
  (tRet (tCall (spP K C__law_mixed) [] E0 (tCons (tVar 0) (tCons (tVar 5) tNil))))))
end LW

namespace LW
open PySem PySem.Spec PyProof.Rows L2 SH
variable [WW]
theorem wp__law_names_v2 {K : PySem.W.Frag} : ∀ Zc svs m Ψ, C__law_names svs m Ψ → ExS K Zc m.length (t__law_names_v2 K) ⟨svs ++ List.replicate (9 - svs.length) .un, m⟩ (retE Ψ) := by
  refine NoI.keep (fun _ wNoI => ?_) ?_
  simp only [↓ NoI.wrOf wNoI (by
  clear wNoI
  rintro Zc _ _ Ψ ⟨b, T, many, rfl, rfl, hw, hm1, hm9, k⟩
  unfold t__law_names_v2
  refine ex_cut (fun s => ∃ (b' : Bag) (kind first : Int), 0 ≤ first ∧ first < 26 ∧ WB (T + 90) b' ∧ s = ⟨[.own 0, .dat (.int (many : Int)), .dat (.str letters), .dat (.int kind), .dat (.int first), .un, .un, .un, .un], [some b'.d]⟩) ?_ ?_
  · walk_at "ev"
    refine use_take (T := T + 98) rfl (hw.less (by omega)) (by omega) (by omega) fun kind b1 _ _ hw1 => ?_
    walk_at "ev"
    refine use_take (T := T + 90) rfl (hw1.less (by omega)) (by omega) (by omega) fun first b2 f0 f1 hw2 => ?_
    walk_at "ev"
    exact To.of _ ⟨b2, kind, first, f0, f1, hw2, rfl⟩ (by walk_at "wk") (by walk_at "wk") (by simp)
  · rintro _ ⟨b1, kind, first, f0, f1, hw1, rfl⟩ hn
    refine ex_cut (fun s => ∃ (b' : Bag) (xs : List Str), xs.length = many ∧ NamesOk xs ∧ xs.Nodup ∧ WB (T + 20) b' ∧ s = ⟨[.own 0, .un, .un, .un, .un, .dat (.list (dS xs)), .un, .un, .un], [some b'.d]⟩) ?_ ?_
    · walk_at "ev"
      refine ⟨fun h => ?_, fun h => ?_⟩
      · refine ex_asg (ev_D (ev_lcP (it_range1 ?_)))
        walk_at "ev"
        refine ⟨_, rfl, by omega, by omega, dS ((List.range many).map fun (k : Nat) => ⟨#[lt ((first + (k : Int)) % 26)]⟩), by simp [dS, rangeD], by simp [dS]; omega, ?_, ?_⟩
        · rintro i d e m' hd he rfl
          obtain ⟨hi, rfl⟩ := rangeD_at hd
          rw [names_str he]
          walk_at "ev"
          refine os_uS rfl rfl (by decide +kernel) (lt_at (Int.emod_nonneg _ (by decide)) (Int.emod_lt_of_pos _ (by decide))).1 ?_
          walk_at "ev"
          exact ⟨rfl, Wk.of (by walk_at "wk") (by walk_at "wk")⟩
        · walk_at "ev"
          refine To.of _ ⟨b1, (List.range many).map fun (k : Nat) => ⟨#[lt ((first + (k : Int)) % 26)]⟩, by simp, names_ok fun k hk => name_one (lt_at (Int.emod_nonneg _ (by decide)) (Int.emod_lt_of_pos _ (by decide))).2, nodup_range fun i j hi hj h => lt_mod_inj hm9 hi hj (one_inj h), hw1.less (by omega), rfl⟩ (by walk_at "wk") (by walk_at "wk") (by simp)
      · walk_at "ev"
        refine ⟨fun h => ?_, fun h => ?_⟩
        · refine ex_asg (ev_D (ev_lcP (it_range1 ?_)))
          walk_at "ev"
          refine ⟨_, rfl, by omega, by omega, dS ((List.range many).map fun (k : Nat) => Txt.mul ⟨#[lt first]⟩ ((k : Int) + 1)), by simp [dS, rangeD], by simp [dS]; omega, ?_, ?_⟩
          · rintro i d e m' hd he rfl
            obtain ⟨hi, rfl⟩ := rangeD_at hd
            rw [names_str he]
            walk_at "ev"
            refine os_uS rfl rfl (by decide +kernel) (lt_at f0 f1).1 ?_
            walk_at "ev"
            · exact ⟨rfl, Wk.of (by walk_at "wk") (by walk_at "wk")⟩
            · exact (mul_one (by omega) (by omega) (lt_at f0 f1).2).1
          · walk_at "ev"
            refine To.of _ ⟨b1, (List.range many).map fun (k : Nat) => Txt.mul ⟨#[lt first]⟩ ((k : Int) + 1), by simp, names_ok fun k hk => (mul_one (by omega) (by omega) (lt_at f0 f1).2).2, nodup_range fun i j hi hj h => (by have := congrArg Str.length h; rw [mul_len (by omega) (by omega), mul_len (by omega) (by omega)] at this; omega), hw1.less (by omega), rfl⟩ (by walk_at "wk") (by walk_at "wk") (by simp)
        · walk_at "ev"
          refine ⟨fun h => ?_, fun h => ?_⟩
          · refine ex_cut (fun s => ∃ (b' : Bag) (stem : Str), Short 11 stem ∧ WB (T + 40) b' ∧ s = ⟨[.own 0, .dat (.int (many : Int)), .dat (.str letters), .dat (.int kind), .dat (.int first), .un, .dat (.str stem), .un, .un], [some b'.d]⟩) ?_ ?_
            · walk_at "ev"
              refine ⟨_, rfl, ?_⟩
              refine ev_lc gw_name (it_range1 ?_)
              walk_at "ev"
              refine use_take (T := T + 80) rfl (hw1.less (by omega)) (by omega) (by omega) fun v b2 v0 v1 hw2 => ?_
              walk_at "ev"
              walk_at "nrm"
              refine ⟨_, rfl, by omega, by omega, fun i s => ∃ (b' : Bag) (ys : List Str), ys.length = i ∧ i ≤ 11 ∧ (∀ y ∈ ys, Short 1 y) ∧ WB (T + 80 - i) b' ∧ s = ⟨[.own 0, .dat (.int (many : Int)), .dat (.str letters), .dat (.int kind), .dat (.int first), .un, .un, .un, .un], [some b'.d, some (.list (dS ys))]⟩,
                ⟨b2, [], rfl, by omega, by simp, hw2, rfl⟩, ?_, ?_⟩
              · rintro i d _ hd ⟨b3, ys, rfl, hi, hy, hw3, rfl⟩ _
                obtain ⟨hi', rfl⟩ := rangeD_at hd
                walk_at "ev"
                refine ⟨fun _ => ?_, fun h => by cases h⟩
                walk_at "ev"
                refine use_some (T := T + 80 - (ys.length + 1)) rfl (hw3.less (by omega)) rfl (by decide +kernel) (by decide +kernel) fun d b4 hd4 hw4 => ?_
                walk_at "ev"
                obtain ⟨c, hc, rfl⟩ := List.mem_map.mp hd4
                refine ⟨_, rfl, small (by simp [dS]; omega), ?_⟩
                walk_at "nrm"
                refine To.of _ ⟨b4, ys ++ [⟨#[c]⟩], by simp, by omega, ?_, hw4, rfl⟩ (by walk_at "wk") (by simp [WkMs, dS]) (by simp)
                intro y hy'
                rcases List.mem_append.mp hy' with q | q
                · exact hy y q
                · simp at q
                  subst q
                  exact ⟨(name_one (letters_ok c hc)).1, Nat.le_refl _⟩
              · rintro _ ⟨b3, ys, hl, hi, hy, hw3, rfl⟩
                refine ⟨ys, .inl rfl, ?_, ?_⟩
                · have : ∀ zs : List Str, (∀ y ∈ zs, Short 1 y) → (zs.map (·.length)).sum ≤ zs.length := by
                    intro zs
                    induction zs with
                    | nil => intro _; simp
                    | cons z zs ih =>
                      intro h
                      have h1 := (h z List.mem_cons_self).2
                      have h2 := ih fun y hy => h y (List.mem_cons_of_mem _ hy)
                      simp only [List.map_cons, List.sum_cons, List.length_cons]
                      omega
                  have h1 := this ys hy
                  have h2 : (Str.ofString "").length = 0 := by decide
                  rw [h2, Nat.mul_zero]
                  omega
                · walk_at "ev"
                  exact To.of _ ⟨b3, _, short_join hy (by omega), hw3.less (by omega), rfl⟩ (by walk_at "wk") (by walk_at "wk") (by simp)
            · rintro _ ⟨b2, stem, hs, hw2, rfl⟩ _
              refine ex_asg (ev_D (ev_lcP (it_range1 ?_)))
              walk_at "ev"
              refine ⟨_, rfl, by omega, by omega, dS ((List.range many).map fun (k : Nat) => stem ++ (⟨#[lt ((first + (k : Int)) % 26)]⟩ : Str)), by simp [dS, rangeD], by simp [dS]; omega, ?_, ?_⟩
              · rintro i d e m' hd he rfl
                obtain ⟨hi, rfl⟩ := rangeD_at hd
                rw [names_str he]
                walk_at "ev"
                refine os_uS rfl rfl (by decide +kernel) (lt_at (Int.emod_nonneg _ (by decide)) (Int.emod_lt_of_pos _ (by decide))).1 ?_
                walk_at "ev"
                · exact ⟨rfl, Wk.of (by walk_at "wk") (by walk_at "wk")⟩
                · have := hs.2
                  exact small (by show stem.length + 1 ≤ _; omega)
              · walk_at "ev"
                refine To.of _ ⟨b2, (List.range many).map fun (k : Nat) => stem ++ (⟨#[lt ((first + (k : Int)) % 26)]⟩ : Str), by simp, names_ok fun k hk => short_add hs ⟨(name_one (lt_at (Int.emod_nonneg _ (by decide)) (Int.emod_lt_of_pos _ (by decide))).2).1, Nat.le_refl _⟩, nodup_range fun i j hi hj h => lt_mod_inj hm9 hi hj (add_inj h), hw2.less (by omega), rfl⟩ (by walk_at "wk") (by walk_at "wk") (by simp)
          · refine ex_asg (ev_D ?_)
            refine ev_lc gw_name (it_range1 ?_)
            walk_at "ev"
            walk_at "nrm"
            refine ⟨_, rfl, by omega, by omega, fun i s => ∃ (b' : Bag) (ys : List Str), ys.length = i ∧ i ≤ 9 ∧ NamesOk ys ∧ ys.map (fun y => y.cps.toList.head?) = (List.range i).map (fun (k : Nat) => some (lt ((first + (k : Int)) % 26))) ∧ WB (T + 90 - i) b' ∧ s = ⟨[.own 0, .dat (.int (many : Int)), .dat (.str letters), .dat (.int kind), .dat (.int first), .un, .un, .un, .un], [some b'.d, some (.list (dS ys))]⟩,
              ⟨b1, [], rfl, by omega, fun x hx => by simp at hx, rfl, hw1, rfl⟩, ?_, ?_⟩
            · rintro i d _ hd ⟨b3, ys, rfl, hi, hy, hhd, hw3, rfl⟩ _
              obtain ⟨hi', rfl⟩ := rangeD_at hd
              walk_at "ev"
              refine ⟨fun _ => ?_, fun h => by cases h⟩
              walk_at "ev"
              have hlt := lt_at (v := (first + (ys.length : Int)) % 26) (Int.emod_nonneg _ (by decide)) (Int.emod_lt_of_pos _ (by decide))
              refine os_uS rfl rfl (by decide +kernel) hlt.1 ?_
              walk_at "ev"
              · refine use_some (T := T + 90 - (ys.length + 1)) rfl (hw3.less (by omega)) rfl (by nofun) (by show 4 < 1000000; decide) fun d b4 hd4 hw4 => ?_
                obtain ⟨x, rfl, hx⟩ : ∃ x : Str, d = .str x ∧ Short 11 x := by
                  have c11 : Short 11 (cutS letters none (some 11)) := by
                    refine ⟨fun c hc => letters_ok c ?_, by decide +kernel⟩
                    revert c
                    decide +kernel
                  rcases List.mem_cons.mp hd4 with rfl | h
                  · exact ⟨_, rfl, by decide +kernel, by decide +kernel⟩
                  rcases List.mem_cons.mp h with rfl | h
                  · exact ⟨_, rfl, by decide +kernel, by decide +kernel⟩
                  rcases List.mem_cons.mp h with rfl | h
                  · exact ⟨_, rfl, by decide +kernel, by decide +kernel⟩
                  rcases List.mem_cons.mp h with rfl | h
                  · exact ⟨_, rfl, c11⟩
                  · cases h
                walk_at "ev"
                · walk_at "nrm"
                  refine ⟨dS ys, rfl, small (by simp [dS]; omega), ?_⟩
                  refine To.of ⟨_, [some b4.d, some (.list (dS (ys ++ [⟨#[lt ((first + (ys.length : Int)) % 26)]⟩ ++ x])))]⟩ ⟨b4, _, by simp, by omega, ?_, ?_, hw4, rfl⟩ (by walk_at "wk") (by simp [WkMs, dS]) (by simp)
                  · intro y hy'
                    rcases List.mem_append.mp hy' with q | q
                    · exact hy y q
                    · simp at q
                      subst q
                      exact short_add (n := 1) (k := 11) ⟨(name_one hlt.2).1, Nat.le_refl _⟩ hx
                  · rw [List.map_append, hhd, List.range_succ, List.map_append]
                    congr 1
                    rw [List.map_cons, List.map_nil, head_add]
                    rfl
                · have := hx.2
                  exact small (by show 1 + x.length ≤ _; omega)
              · decide +kernel
            · rintro _ ⟨b3, ys, hl, hi, hy, hhd, hw3, rfl⟩
              walk_at "ev"
              exact To.of _ ⟨b3, ys, by simpa [rangeD] using hl, hy, nodup_of_map (by rw [hhd]; exact nodup_range fun i j hi2 hj2 h => lt_mod_inj hi hi2 hj2 (Option.some.inj h)), hw3.less (by omega), rfl⟩ (by walk_at "wk") (by walk_at "wk") (by simp)
    · rintro _ ⟨b2, xs, hl, hx, hnd, hw2, rfl⟩ _
      walk_at "ev"
      refine use_mixed (T := T) rfl (hw2.less (by simp [dS]; omega)) rfl (by simp [dS]; omega) fun es b3 hp hw3 => ?_
      obtain ⟨ys, rfl, hp'⟩ := perm_strs hp
      exact k _ ys b3 (by rw [hp'.length_eq, hl]) (fun x hx' => hx x (hp'.mem_iff.mp hx')) (hp'.nodup_iff.mpr hnd) hw3 rfl
  )]
  intro _ hNoI
  simpa using (fun (_ : NoI.Sg) => hNoI) [5]
end LW

end
section

local macro_rules | `(tactic| walk_at "ev1") => `(tactic| first
  | (with_reducible refine SH.ex_seq ?_)
  | (with_reducible refine SH.ev_orV ?_)
  | (with_reducible refine SH.ev_ckw ?_)
  | ((with_reducible show SH.MtS _ _ L2.rExtend _ _ _ _); refine SH.mt_extendS rfl rfl ?_ ?_; rotate_left 1)
  | ((with_reducible show SH.CbS _ _ SH.rTupR _ _ _); refine SH.cb_tupR rfl ?_ ?_ ?_; rotate_left 2)
  | (with_reducible refine SH.ev_notV ?_)
  | (with_reducible refine SH.ev_chain ?_)
  | (with_reducible refine SH.back ?_)
  | ((with_reducible show (true = true → _) ∧ (true = false → _)); refine ⟨fun _ => ?_, fun shh => Bool.noConfusion shh⟩)
  | ((with_reducible show (false = true → _) ∧ (false = false → _)); refine ⟨fun shh => Bool.noConfusion shh, fun _ => ?_⟩)
  | ((with_reducible show ((!true) = true → _) ∧ ((!true) = false → _)); refine ⟨fun shh => Bool.noConfusion shh, fun _ => ?_⟩)
  | ((with_reducible show ((!false) = true → _) ∧ ((!false) = false → _)); refine ⟨fun _ => ?_, fun shh => Bool.noConfusion shh⟩)
  | ((with_reducible show ∃ shE1 shE2, [_, _] = [shE1, shE2] ∧ _); refine ⟨_, _, rfl, ?_⟩)
  | ((with_reducible show ∃ shE1 shE2 shE3, [_, _, _] = [shE1, shE2, shE3] ∧ _); refine ⟨_, _, _, rfl, ?_⟩)
  | ((with_reducible show (∃ shE1, SH.rd _ _ = some (PySem.PyData.list shE1)) ∧ _); refine ⟨⟨_, rfl⟩, ?_⟩)
  | ((with_reducible show SH.MtS _ _ L2.rAppend _ _ _ _); refine SH.mt_appendS rfl ?_ ?_; rotate_left 1)
  | ((with_reducible show ∃ shE1 shE2, SH.rd _ (SH.SV.dat (PySem.PyData.bool _)) = some shE1 ∧ SH.truD shE1 = some shE2 ∧ _); refine ⟨_, _, rfl, rfl, by nofun, ?_⟩)
  | (with_reducible refine SH.ex_if ?_)
  | (with_reducible refine SH.ex_ret ?_)
  | (with_reducible refine SH.ex_drop ?_)
  | (with_reducible refine SH.ex_augS ?_)
  | (with_reducible refine SH.ex_put ?_)
  | ((with_reducible show SH.ExS _ _ _ (L2.tAsg _ (L2.gTup _ _ (L2.gCons (L2.gSub _ _ SH.rSetU) _))) _ _); refine SH.ex_asgT ?_)
  | ((with_reducible show SH.ExS _ _ _ (L2.tAsg _ (L2.gSub _ _ SH.rSetU)) _ _); refine SH.ex_asgT ?_)
  | (with_reducible refine SH.ex_asg ?_)
  | (with_reducible refine SH.ex_next ?_)
  | (with_reducible refine SH.ex_par ?_)
  | (with_reducible refine SH.ex_par3 ?_)
  | (with_reducible refine SH.ex_break ?_)
  | (with_reducible refine SH.ex_cont ?_)
  | (with_reducible refine SH.g_name ?_)
  | (with_reducible refine SH.gt_name ?_)
  | (with_reducible refine SH.gt_cons ?_)
  | (with_reducible refine SH.gt_nil ?_)
  | ((with_reducible refine SH.gt_tup (ds := ?shS) ?shA ?shB ?shD ?shC); (case shA => exact rfl); (case shB => exact rfl); (case shD => exact rfl))
  | (with_reducible refine SH.g_cons ?_)
  | (with_reducible refine SH.g_nil ?_)
  | ((with_reducible refine SH.g_tup (ds := ?shS) ?shA ?shB ?shD ?shC); (case shA => exact rfl); (case shB => exact rfl); (case shD => exact rfl))
  | (with_reducible refine SH.tt_test ?_)
  | (with_reducible refine SH.tt_tru ?_)
  | (with_reducible refine SH.tt_and ?_)
  | (with_reducible refine SH.tt_or ?_)
  | (with_reducible refine SH.tt_not ?_)
  | (with_reducible refine SH.tt_yes ?_)
  | (with_reducible refine SH.ev_isi (by decide) ?_)
  | (with_reducible refine SH.ev_dnew ?_)
  | (with_reducible refine SH.ev_disp1 ?_)
  | (with_reducible refine SH.ev_upper ?_)
  | (with_reducible refine SH.ev_int ?_)
  | (with_reducible refine SH.ev_str ?_)
  | (with_reducible refine SH.ev_bl ?_)
  | (with_reducible refine SH.ev_non ?_)
  | (with_reducible refine SH.ev_op ?_)
  | (with_reducible refine SH.ev_un ?_)
  | (with_reducible refine SH.ev_if ?_)
  | (with_reducible refine SH.ev_sl ?_)
  | (with_reducible refine SH.ev_cb ?_)
  | (with_reducible refine SH.ev_bmL ?_)
  | (with_reducible refine SH.ev_bmL0 ?_)
  | (with_reducible refine SH.ev_tupD ?_)
  | (with_reducible refine SH.ev_lstD ?_)
  | (with_reducible refine SH.ev_andV ?_)
  | (with_reducible refine SH.ev_join ?_)
  | (with_reducible refine SH.asD_dat ?_)
  | (with_reducible refine SH.ad_nil ?_)
  | (with_reducible refine SH.ad_cons ?_)
  | (with_reducible refine SH.ar_nil ?_)
  | (with_reducible refine SH.ar_cons ?_)
  | (with_reducible refine SH.pt_none ?_)
  | (with_reducible refine SH.pt_part ?_)
  | (with_reducible refine SH.it_range1 ?_)
  | (with_reducible refine SH.it_range2 ?_)
  | (with_reducible refine SH.it_seq ?_)
  | ((with_reducible refine SH.ev_var (sv := ?shS) ?shA ?shB ?shC); (case shA => exact rfl); (case shB => (intro z; cases z)))
  | ((with_reducible refine SH.ev_callBD (j := ?shS) ?shA ?shC); (case shA => exact rfl))
  | (with_reducible refine SH.ev_callD ?_)
  | ((with_reducible show ∃ shE1, SH.SV.dat (PySem.PyData.bool _) = SH.SV.dat (PySem.PyData.bool shE1) ∧ _); refine ⟨_, rfl, ?_⟩)
  | ((with_reducible show ∃ shE1, SH.SV.dat (PySem.PyData.int _) = SH.SV.dat (PySem.PyData.int shE1) ∧ _); refine ⟨_, rfl, ?_⟩)
  | ((with_reducible refine And.intro (a := _ ≤ PySem.sizeLine) ?shA ?shC); (case shA => (first | decide | (rw [PySem.sizeLine_eq]; simp only [List.length_cons, List.length_nil, List.length_append, List.length_map]; omega))))
  | ((with_reducible refine SH.asD_own (ds := ?shS) ?shA ?shC); (case shA => exact rfl))
  | ((with_reducible show SH.OpS _ _ (SH.rIxU _) _ _ _ _); first | refine SH.os_uL rfl rfl rfl ?_ | refine SH.os_uT rfl rfl rfl ?_)
  | ((with_reducible show SH.OpS _ _ (SH.rAddU _) _ _ _ _); first | refine SH.os_addI rfl rfl ?_ | (refine SH.os_addS rfl rfl ?_ ?_; rotate_left 1) | (refine SH.os_addL rfl rfl ?_ ?_; rotate_left 1) | (refine SH.os_addT rfl rfl ?_ ?_; rotate_left 1))
  | ((with_reducible show SH.OpS _ _ (SH.rMulX _) _ _ _ _); first | (refine SH.os_mxI rfl rfl ?_ ?_; rotate_left 1) | (refine SH.os_mxS rfl rfl ?_ ?_; rotate_left 1))
  | ((with_reducible show SH.OpS _ _ (SH.rEqU _) _ _ _ _); first | refine SH.os_eqI rfl rfl ?_ | refine SH.os_eqS rfl rfl ?_ | refine SH.os_eqO rfl rfl ?_)
  | ((with_reducible show SH.OpS _ _ (SH.rNeU _) _ _ _ _); first | refine SH.os_neI rfl rfl ?_ | refine SH.os_neS rfl rfl ?_ | refine SH.os_neO rfl rfl ?_)
  | ((with_reducible show SH.OpS _ _ _ _ _ _ _); first | refine SH.os_lt rfl rfl ?_ | refine SH.os_le rfl rfl ?_ | refine SH.os_gt rfl rfl ?_ | refine SH.os_ge rfl rfl ?_ | refine SH.os_sub rfl rfl ?_ | (refine SH.os_mod rfl rfl (by decide) ?_) | (refine SH.os_mod rfl rfl ?_ ?_; rotate_left 1) | (refine SH.os_div rfl rfl (by decide) (by decide) ?_) | (refine SH.os_div rfl rfl ?_ ?_ ?_; rotate_left 2) | (refine SH.os_pow rfl rfl ?_ ?_; rotate_left 1))
  | ((with_reducible show SH.UnS _ _ _ _ _ _); first | refine SH.un_neg' rfl ?_)
  | ((with_reducible show SH.SlS _ _ _ _ _ _ _ _); first | refine SH.sl_L rfl ?_ | refine SH.sl_T rfl ?_ | (refine SH.sl_S rfl ?_ ?_; rotate_left 1) | refine SH.sl_ro rfl ?_)
  | ((with_reducible show SH.CbS _ _ _ _ _ _); first | refine SH.cb_lenL rfl ?_ | refine SH.cb_lenT rfl ?_ | (refine SH.cb_lenS rfl ?_ ?_; rotate_left 1) | refine SH.cb_abs rfl ?_ | refine SH.cb_int rfl ?_ | refine SH.cb_listWL rfl ?_ | refine SH.cb_listWT rfl ?_ | refine SH.cb_tupL rfl ?_ | refine SH.cb_tupT rfl ?_ | refine SH.cb_min2 rfl rfl ?_ | refine SH.cb_max2 rfl rfl ?_ | refine SH.cb_rng1 rfl ?_ | refine SH.cb_rng2 rfl rfl ?_))
local macro_rules | `(tactic| walk_at "ev") => `(tactic| repeat walk_at "ev1")
local macro_rules | `(tactic| walk_at "wk") => `(tactic| (repeat' first | exact trivial | exact Or.inl rfl | (refine And.intro ?_ ?_) | exact Or.inr rfl | (refine Or.inr ⟨rfl, ?_⟩; intro j e; first | (cases e; done) | (cases e; show _ < _; first | decide | simp))))
local macro_rules | `(tactic| walk_at "nrm") => `(tactic| dsimp only [SH.S.fz, SH.SV.fz, List.map, List.set, SH.wipeS, List.cons_append, List.nil_append, List.length_cons, List.length_nil, Nat.beq, List.replicate])
local macro_rules | `(tactic| walk_at "go") => `(tactic| (walk_at "ev"; (try walk_at "nrm"); walk_at "ev"; (try walk_at "nrm"); walk_at "ev"; (try walk_at "nrm")))

/-! wishes -/
namespace LW
open PySem PySem.Spec PyProof.Rows L2 SH
variable [WW]
inductive Wish where
  | ru (yes : Bool) (x : Str) (k : Nat) (m : Int)
  | sp (m : Int) (k e : Nat)
  | st (j : Nat)
def wayS (yes : Bool) : Str := if yes = true then "on" else "off"
def Wish.d : Wish → D
  | .ru y x k m => .tuple [.str (wayS y), .str x, .int (k : Int), .int m]
  | .sp m k e => .tuple [.str "spare", .int m, .int (k : Int), .int (e : Int)]
  | .st j => .tuple [.str "stay", .int (j : Int)]
def wOk (F : Fleet) : Wish → Prop
  | .ru _ x k m => x ∈ F.names ∧ k ≤ F.row.length ∧ 0 ≤ m ∧ m ≤ 100
  | .sp m k e => 0 ≤ m ∧ m ≤ 100 ∧ k ≤ e ∧ e ≤ F.row.length
  | .st j => j < F.row.length
structure WsOk (F : Fleet) (ws : List Wish) : Prop where
  al : ∀ w ∈ ws, wOk F w
  ln : ws.length ≤ 100
/-! ### contracts -/
end LW

namespace LW
open PySem PySem.Spec PyProof.Rows L2 SH
variable [WW]
end LW


namespace LW
open PySem PySem.Spec PyProof.Rows L2 SH
variable [WW]
section
variable {sl : List SV} {mem : Mem} {Φ : SV → S → Prop} {b : Bag} {T j : Nat}
end
section
variable {sl : List SV} {mem : Mem} {Φ : SV → S → Prop} {b : Bag} {T j : Nat}
end
end LW


namespace LW
open PySem PySem.Spec PyProof.Rows L2 SH
variable [WW]
end LW


namespace LW
open PySem PySem.Spec PyProof.Rows L2 SH
variable [WW]
end LW


namespace LW
open PySem PySem.Spec PyProof.Rows L2 SH
variable [WW]
end LW


namespace LW
open PySem PySem.Spec PyProof.Rows L2 SH
variable [WW]
/-! ### what suits, together -/
section
variable {sl : List SV} {mem : Mem} {Φ : SV → S → Prop} {b : Bag} {T j : Nat}
end
end LW

/-! the way between two reduced words -/
namespace LW
open PySem PySem.Spec PyProof.Rows L2 SH
variable [WW]
/-- how many words they begin with together -/
def comL : List Str → List Str → Nat
  | x :: a, y :: b => if x = y then comL a b + 1 else 0
  | _, _ => 0
theorem comL_nil (a : List Str) : comL a [] = 0 := by cases a <;> rfl
theorem comL_cons (x : Str) (a b : List Str) : comL (x :: a) (x :: b) = comL a b + 1 := if_pos rfl
theorem comL_ne {x y : Str} (h : x ≠ y) (a b : List Str) : comL (x :: a) (y :: b) = 0 := if_neg h
theorem comL_comm : ∀ a b : List Str, comL a b = comL b a
  | [], b => (comL_nil b).symm
  | x :: a, [] => rfl
  | x :: a, y :: b => by
    by_cases e : x = y
    · subst e
      rw [comL_cons, comL_cons, comL_comm a b]
    · rw [comL_ne e, comL_ne fun z => e z.symm]
theorem comL_self : ∀ a : List Str, comL a a = a.length
  | [] => rfl
  | x :: a => by rw [comL_cons, comL_self a, List.length_cons]
theorem comL_take : ∀ a b : List Str, a.take (comL a b) = b.take (comL a b)
  | [], b => by simp [comL]
  | x :: a, [] => by simp [comL]
  | x :: a, y :: b => by
    by_cases e : x = y
    · subst e
      rw [comL_cons, List.take_succ_cons, List.take_succ_cons, comL_take a b]
    · rw [comL_ne e]; rfl
/-! the reduced word of a walk -/
theorem red_tail {x : Str} {a : List Str} (h : Red (x :: a)) : Red a := by
  cases a with
  | nil => trivial
  | cons y a => exact h.2
theorem red_onto : ∀ (b : List Str) (y : Str) (st : List Str), Red (y :: b) → Red st → (∀ x r, st = x :: r → y ≠ x) → Red ((y :: b).reverse ++ st)
  | b, y, st, hb, hs, hn => by
    have h1 : Red (y :: st) := by
      cases st with
      | nil => trivial
      | cons x r => exact ⟨hn x r rfl, hs⟩
    cases b with
    | nil => exact h1
    | cons z b =>
      have := red_onto b z (y :: st) hb.2 h1 fun x r e => by cases e; exact fun q => hb.1 q.symm
      rw [List.reverse_cons, List.append_assoc]
      exact this
  termination_by b => b.length
theorem red_rev {a : List Str} (h : Red a) : Red a.reverse := by
  cases a with
  | nil => trivial
  | cons x a =>
    have := red_onto a x [] h trivial fun _ _ e => by cases e
    rwa [List.append_nil] at this
theorem red_redS (w : List Str) : Red (redS w) := red_rev (stk_red w)
theorem foldl_walk : ∀ (a b : List Str), Red a → Red b → b.foldl push a = (b.drop (comL a b)).reverse ++ a.drop (comL a b)
  | a, [], _, _ => by rw [comL_nil]; rfl
  | [], y :: b, _, hb => by
    rw [foldl_revd (by rw [List.append_nil]; exact red_rev hb)]
    rfl
  | x :: a, y :: b, ha, hb => by
    by_cases e : x = y
    · subst e
      rw [comL_cons, List.foldl_cons, show push (x :: a) x = a from if_pos rfl, foldl_walk a b (red_tail ha) (red_tail hb)]
      rfl
    · rw [comL_ne e, foldl_revd (red_onto b y (x :: a) hb ha fun z r q => by cases q; exact fun q => e q.symm)]
      rfl
theorem walk_red {a b : List Str} (ha : Red a) (hb : Red b) : redS (a.reverse ++ b) = (a.drop (comL a b)).reverse ++ b.drop (comL a b) := by
  refine NoI.keep (fun _ wNoI => ?_) ?_
  simp only [↓ NoI.wrOf wNoI (by
  clear wNoI
  have h1 : stk a.reverse = a := by
    have := foldl_revd (ws := a.reverse) (st := []) (by rw [List.append_nil, List.reverse_reverse]; exact ha)
    unfold stk
    rw [this, List.append_nil, List.reverse_reverse]
  unfold redS
  rw [stk_append, h1, foldl_walk a b ha hb, List.reverse_append, List.reverse_reverse]
  )]
  intro _ hNoI
  simpa using (fun (_ : NoI.Sg) => hNoI) [5]
/-! ### the way -/
abbrev Edge := List Str × Str
def wayDn (a : List Str) (c : Nat) : List Edge := (List.range (a.length - c)).map fun i => (a.take (a.length - 1 - i), a.getD (a.length - 1 - i) "")
def wayUp (b : List Str) (c : Nat) : List Edge := (List.range (b.length - c)).map fun i => (b.take (c + i), b.getD (c + i) "")
def wayL (a b : List Str) : List Edge := wayDn a (comL a b) ++ wayUp b (comL a b)
theorem wayL_len (a b : List Str) : (wayL a b).length = (a.length - comL a b) + (b.length - comL a b) := by simp [wayL, wayDn, wayUp]
theorem wayUp_srv (b : List Str) (c : Nat) : (wayUp b c).map (·.2) = b.drop c := by
  refine NoI.keep (fun _ wNoI => ?_) ?_
  simp only [↓ NoI.wrOf wNoI (by
  clear wNoI
  unfold wayUp
  rw [List.map_map]
  apply List.ext_getElem?
  intro i
  rw [List.getElem?_map, List.getElem?_drop]
  by_cases h : i < b.length - c
  · rw [List.getElem?_range h, List.getElem?_eq_getElem (show c + i < b.length by omega)]
    simp [List.getD_eq_getElem?_getD, List.getElem?_eq_getElem (show c + i < b.length by omega)]
  · rw [List.getElem?_eq_none (by rw [List.length_range]; omega), List.getElem?_eq_none (by omega)]
    rfl
  )]
  intro _ hNoI
  simpa using (fun (_ : NoI.Sg) => hNoI) [5]
theorem wayDn_srv (a : List Str) (c : Nat) : (wayDn a c).map (·.2) = (a.drop c).reverse := by
  refine NoI.keep (fun _ wNoI => ?_) ?_
  simp only [↓ NoI.wrOf wNoI (by
  clear wNoI
  unfold wayDn
  rw [List.map_map]
  apply List.ext_getElem?
  intro i
  rw [List.getElem?_map]
  by_cases h : i < a.length - c
  · rw [List.getElem?_range h, List.getElem?_reverse (by rw [List.length_drop]; exact h), List.getElem?_drop, List.length_drop]
    rw [show c + (a.length - c - 1 - i) = a.length - 1 - i by omega]
    simp [List.getD_eq_getElem?_getD, List.getElem?_eq_getElem (show a.length - 1 - i < a.length by omega)]
  · rw [List.getElem?_eq_none (by rw [List.length_range]; omega), List.getElem?_eq_none (by rw [List.length_reverse, List.length_drop]; omega)]
    rfl
  )]
  intro _ hNoI
  simpa using (fun (_ : NoI.Sg) => hNoI) [5]
theorem wayL_srv (a b : List Str) : (wayL a b).map (·.2) = (a.drop (comL a b)).reverse ++ b.drop (comL a b) := by
  unfold wayL
  rw [List.map_append, wayUp_srv, wayDn_srv]
/-- how many edges with a service -/
def cntW (a b : List Str) (x : Str) : Nat := ((wayL a b).map (·.2)).count x
theorem cntW_red {a b : List Str} (ha : Red a) (hb : Red b) (x : Str) : (redS (a.reverse ++ b)).count x = cntW a b x := by
  rw [walk_red ha hb, cntW, wayL_srv]
end LW

/-! tolls and prices, ways in the tree -/
namespace LW
open PySem PySem.Spec PyProof.Rows L2 SH
variable [WW]
structure PrOk (F : Fleet) (qs : List Lq) (pr : Lq → Int) : Prop where
  pm : qs.Perm (allL F)
  bd : ∀ q, 0 ≤ pr q ∧ pr q ≤ 1000000
/-- the vertex of a plan in a stretch -/
def vtx (F : Fleet) (p : List Int) (k : Nat) : List Str := redS (hopsB F p k)
/-! ### contracts -/
def C_walk : Ct := fun svs m Ψ => ∃ a b : List Str, svs = [.dat (.tuple (dS a)), .dat (.tuple (dS b))] ∧ m = [] ∧ NamesOk a ∧ NamesOk b ∧ a.length + b.length ≤ 1000000 ∧ ∀ m', Ψ (.dat (.tuple (dS (redS (a.reverse ++ b))))) m'
end LW

namespace LW
open PySem PySem.Spec PyProof.Rows L2 SH
variable [WW]
def t_walk (K : PySem.W.Frag) : TS :=
  (tRet (tCall (spP K C_joined) [] E0 (tCons (tCall (spP K C_inverse) [] E0 (tCons (tVar 0) tNil)) (tCons (tVar 1) tNil))))
end LW

end
section

local macro_rules | `(tactic| walk_at "ev1") => `(tactic| first
  | (with_reducible refine SH.ex_seq ?_)
  | (with_reducible refine SH.ev_orV ?_)
  | (with_reducible refine SH.ev_ckw ?_)
  | ((with_reducible show SH.MtS _ _ L2.rExtend _ _ _ _); refine SH.mt_extendS rfl rfl ?_ ?_; rotate_left 1)
  | ((with_reducible show SH.CbS _ _ SH.rTupR _ _ _); refine SH.cb_tupR rfl ?_ ?_ ?_; rotate_left 2)
  | (with_reducible refine SH.ev_notV ?_)
  | (with_reducible refine SH.ev_chain ?_)
  | (with_reducible refine SH.back ?_)
  | ((with_reducible show (true = true → _) ∧ (true = false → _)); refine ⟨fun _ => ?_, fun shh => Bool.noConfusion shh⟩)
  | ((with_reducible show (false = true → _) ∧ (false = false → _)); refine ⟨fun shh => Bool.noConfusion shh, fun _ => ?_⟩)
  | ((with_reducible show ((!true) = true → _) ∧ ((!true) = false → _)); refine ⟨fun shh => Bool.noConfusion shh, fun _ => ?_⟩)
  | ((with_reducible show ((!false) = true → _) ∧ ((!false) = false → _)); refine ⟨fun _ => ?_, fun shh => Bool.noConfusion shh⟩)
  | ((with_reducible show ∃ shE1 shE2, [_, _] = [shE1, shE2] ∧ _); refine ⟨_, _, rfl, ?_⟩)
  | ((with_reducible show ∃ shE1 shE2 shE3, [_, _, _] = [shE1, shE2, shE3] ∧ _); refine ⟨_, _, _, rfl, ?_⟩)
  | ((with_reducible show (∃ shE1, SH.rd _ _ = some (PySem.PyData.list shE1)) ∧ _); refine ⟨⟨_, rfl⟩, ?_⟩)
  | ((with_reducible show SH.MtS _ _ L2.rAppend _ _ _ _); refine SH.mt_appendS rfl ?_ ?_; rotate_left 1)
  | ((with_reducible show ∃ shE1 shE2, SH.rd _ (SH.SV.dat (PySem.PyData.bool _)) = some shE1 ∧ SH.truD shE1 = some shE2 ∧ _); refine ⟨_, _, rfl, rfl, by nofun, ?_⟩)
  | (with_reducible refine SH.ex_if ?_)
  | (with_reducible refine SH.ex_ret ?_)
  | (with_reducible refine SH.ex_drop ?_)
  | (with_reducible refine SH.ex_augS ?_)
  | (with_reducible refine SH.ex_put ?_)
  | ((with_reducible show SH.ExS _ _ _ (L2.tAsg _ (L2.gTup _ _ (L2.gCons (L2.gSub _ _ SH.rSetU) _))) _ _); refine SH.ex_asgT ?_)
  | ((with_reducible show SH.ExS _ _ _ (L2.tAsg _ (L2.gSub _ _ SH.rSetU)) _ _); refine SH.ex_asgT ?_)
  | (with_reducible refine SH.ex_asg ?_)
  | (with_reducible refine SH.ex_next ?_)
  | (with_reducible refine SH.ex_par ?_)
  | (with_reducible refine SH.ex_par3 ?_)
  | (with_reducible refine SH.ex_break ?_)
  | (with_reducible refine SH.ex_cont ?_)
  | (with_reducible refine SH.g_name ?_)
  | (with_reducible refine SH.gt_name ?_)
  | (with_reducible refine SH.gt_cons ?_)
  | (with_reducible refine SH.gt_nil ?_)
  | ((with_reducible refine SH.gt_tup (ds := ?shS) ?shA ?shB ?shD ?shC); (case shA => exact rfl); (case shB => exact rfl); (case shD => exact rfl))
  | (with_reducible refine SH.g_cons ?_)
  | (with_reducible refine SH.g_nil ?_)
  | ((with_reducible refine SH.g_tup (ds := ?shS) ?shA ?shB ?shD ?shC); (case shA => exact rfl); (case shB => exact rfl); (case shD => exact rfl))
  | (with_reducible refine SH.tt_test ?_)
  | (with_reducible refine SH.tt_tru ?_)
  | (with_reducible refine SH.tt_and ?_)
  | (with_reducible refine SH.tt_or ?_)
  | (with_reducible refine SH.tt_not ?_)
  | (with_reducible refine SH.tt_yes ?_)
  | (with_reducible refine SH.ev_isi (by decide) ?_)
  | (with_reducible refine SH.ev_dnew ?_)
  | (with_reducible refine SH.ev_disp1 ?_)
  | (with_reducible refine SH.ev_upper ?_)
  | (with_reducible refine SH.ev_int ?_)
  | (with_reducible refine SH.ev_str ?_)
  | (with_reducible refine SH.ev_bl ?_)
  | (with_reducible refine SH.ev_non ?_)
  | (with_reducible refine SH.ev_op ?_)
  | (with_reducible refine SH.ev_un ?_)
  | (with_reducible refine SH.ev_if ?_)
  | (with_reducible refine SH.ev_sl ?_)
  | (with_reducible refine SH.ev_cb ?_)
  | (with_reducible refine SH.ev_bmL ?_)
  | (with_reducible refine SH.ev_bmL0 ?_)
  | (with_reducible refine SH.ev_tupD ?_)
  | (with_reducible refine SH.ev_lstD ?_)
  | (with_reducible refine SH.ev_andV ?_)
  | (with_reducible refine SH.ev_join ?_)
  | (with_reducible refine SH.asD_dat ?_)
  | (with_reducible refine SH.ad_nil ?_)
  | (with_reducible refine SH.ad_cons ?_)
  | (with_reducible refine SH.ad_star ?_)
  | (with_reducible refine SH.ar_nil ?_)
  | (with_reducible refine SH.ar_cons ?_)
  | (with_reducible refine SH.pt_none ?_)
  | (with_reducible refine SH.pt_part ?_)
  | (with_reducible refine SH.it_range1 ?_)
  | (with_reducible refine SH.it_range2 ?_)
  | (with_reducible refine SH.it_seq ?_)
  | (with_reducible refine SH.it_range3 ?_)
  | (with_reducible refine SH.it_revR2 ?_)
  | ((with_reducible refine SH.ev_var (sv := ?shS) ?shA ?shB ?shC); (case shA => exact rfl); (case shB => (intro z; cases z)))
  | ((with_reducible refine SH.ev_callBD (j := ?shS) ?shA ?shC); (case shA => exact rfl))
  | (with_reducible refine SH.ev_callD ?_)
  | ((with_reducible show ∃ shE1, SH.SV.dat (PySem.PyData.bool _) = SH.SV.dat (PySem.PyData.bool shE1) ∧ _); refine ⟨_, rfl, ?_⟩)
  | ((with_reducible show ∃ shE1, SH.SV.dat (PySem.PyData.int _) = SH.SV.dat (PySem.PyData.int shE1) ∧ _); refine ⟨_, rfl, ?_⟩)
  | ((with_reducible refine And.intro (a := _ ≤ PySem.sizeLine) ?shA ?shC); (case shA => (first | decide | (rw [PySem.sizeLine_eq]; simp only [List.length_cons, List.length_nil, List.length_append, List.length_map]; omega))))
  | ((with_reducible refine SH.asD_own (ds := ?shS) ?shA ?shC); (case shA => exact rfl))
  | ((with_reducible show SH.OpS _ _ (SH.rIxU _) _ _ _ _); first | refine SH.os_uL rfl rfl rfl ?_ | refine SH.os_uT rfl rfl rfl ?_)
  | ((with_reducible show SH.OpS _ _ (SH.rAddU _) _ _ _ _); first | refine SH.os_addI rfl rfl ?_ | (refine SH.os_addS rfl rfl ?_ ?_; rotate_left 1) | (refine SH.os_addL rfl rfl ?_ ?_; rotate_left 1) | (refine SH.os_addT rfl rfl ?_ ?_; rotate_left 1))
  | ((with_reducible show SH.OpS _ _ (SH.rMulX _) _ _ _ _); first | (refine SH.os_mxI rfl rfl ?_ ?_; rotate_left 1) | (refine SH.os_mxS rfl rfl ?_ ?_; rotate_left 1))
  | ((with_reducible show SH.OpS _ _ (SH.rEqU _) _ _ _ _); first | refine SH.os_eqI rfl rfl ?_ | refine SH.os_eqS rfl rfl ?_ | refine SH.os_eqO rfl rfl ?_)
  | ((with_reducible show SH.OpS _ _ (SH.rNeU _) _ _ _ _); first | refine SH.os_neI rfl rfl ?_ | refine SH.os_neS rfl rfl ?_ | refine SH.os_neO rfl rfl ?_)
  | ((with_reducible show SH.OpS _ _ _ _ _ _ _); first | refine SH.os_lt rfl rfl ?_ | refine SH.os_le rfl rfl ?_ | refine SH.os_gt rfl rfl ?_ | refine SH.os_ge rfl rfl ?_ | refine SH.os_sub rfl rfl ?_ | (refine SH.os_mod rfl rfl (by decide) ?_) | (refine SH.os_mod rfl rfl ?_ ?_; rotate_left 1) | (refine SH.os_div rfl rfl (by decide) (by decide) ?_) | (refine SH.os_div rfl rfl ?_ ?_ ?_; rotate_left 2) | (refine SH.os_pow rfl rfl ?_ ?_; rotate_left 1))
  | ((with_reducible show SH.UnS _ _ _ _ _ _); first | refine SH.un_neg' rfl ?_)
  | ((with_reducible show SH.SlS _ _ _ _ _ _ _ _); first | refine SH.sl_L rfl ?_ | refine SH.sl_T rfl ?_ | (refine SH.sl_S rfl ?_ ?_; rotate_left 1) | refine SH.sl_ro rfl ?_)
  | ((with_reducible show SH.CbS _ _ _ _ _ _); first | refine SH.cb_lenL rfl ?_ | refine SH.cb_lenT rfl ?_ | (refine SH.cb_lenS rfl ?_ ?_; rotate_left 1) | refine SH.cb_abs rfl ?_ | refine SH.cb_int rfl ?_ | refine SH.cb_listWL rfl ?_ | refine SH.cb_listWT rfl ?_ | refine SH.cb_tupL rfl ?_ | refine SH.cb_tupT rfl ?_ | refine SH.cb_min2 rfl rfl ?_ | refine SH.cb_max2 rfl rfl ?_ | refine SH.cb_rng1 rfl ?_ | refine SH.cb_rng2 rfl rfl ?_))
local macro_rules | `(tactic| walk_at "ev") => `(tactic| repeat walk_at "ev1")
local macro_rules | `(tactic| walk_at "wk") => `(tactic| (repeat' first | exact trivial | exact Or.inl rfl | (refine And.intro ?_ ?_) | exact Or.inr rfl | (refine Or.inr ⟨rfl, ?_⟩; intro j e; first | (cases e; done) | (cases e; show _ < _; first | decide | simp))))
local macro_rules | `(tactic| walk_at "nrm") => `(tactic| dsimp only [SH.S.fz, SH.SV.fz, List.map, List.set, SH.wipeS, List.cons_append, List.nil_append, List.length_cons, List.length_nil, Nat.beq, List.replicate])
local macro_rules | `(tactic| walk_at "go") => `(tactic| (walk_at "ev"; (try walk_at "nrm"); walk_at "ev"; (try walk_at "nrm"); walk_at "ev"; (try walk_at "nrm")))


namespace LW
open PySem PySem.Spec PyProof.Rows L2 SH
variable [WW]
theorem dS_take (a : List Str) (n : Nat) : (dS a).take n = dS (a.take n) := by simp [dS, List.map_take]
theorem cut_tS (a : List Str) (n : Nat) : SH.cutD (dS a) none (some (n : Int)) = dS (a.take n) := by rw [cut_to, dS_take]
theorem wp_walk {K : PySem.W.Frag} : ∀ Zc svs m Ψ, C_walk svs m Ψ → ExS K Zc m.length (t_walk K) ⟨svs ++ List.replicate (2 - svs.length) .un, m⟩ (retE Ψ) := by
  refine NoI.keep (fun _ wNoI => ?_) ?_
  simp only [↓ NoI.wrOf wNoI (by
  clear wNoI
  rintro Zc _ _ Ψ ⟨a, b, rfl, rfl, ha, hb, hl, k⟩
  unfold t_walk
  show ExS _ _ _ _ ⟨[.dat (.tuple (dS a)), .dat (.tuple (dS b))], []⟩ _
  walk_at "go"
  refine use_inverse ?_
  walk_at "go"
  refine use_joined (fun x hx => ha x (List.mem_reverse.mp hx)) hb (by rw [List.length_reverse]; exact hl) ?_
  walk_at "go"
  exact k _
  )]
  intro _ hNoI
  simpa using (fun (_ : NoI.Sg) => hNoI) [5]
end LW


namespace LW
open PySem PySem.Spec PyProof.Rows L2 SH
variable [WW]
theorem vtx_names {F : Fleet} {p : List Int} (hF : FOk F) (hp : PlanOk F p) (k : Nat) : NamesOk (vtx F p k) := redS_names (hops_ok hF hp k).1
theorem vtx_len {F : Fleet} {p : List Int} (hF : FOk F) (hp : PlanOk F p) (k : Nat) : (vtx F p k).length ≤ 60 := Nat.le_trans (redS_len _) (hops_ok hF hp k).2
theorem vtx_red (F : Fleet) (p : List Int) (k : Nat) : Red (vtx F p k) := red_redS _
theorem cntW_le (a b : List Str) (x : Str) : cntW a b x ≤ a.length + b.length := by
  have h : cntW a b x ≤ ((wayL a b).map (·.2)).length := List.count_le_length
  rw [List.length_map, wayL_len] at h
  omega
section
variable {sl : List SV} {mem : Mem} {Φ : SV → S → Prop} {b : Bag} {T j : Nat}
theorem use_vtx {F : Fleet} {p : List Int} {n : Nat} (hF : FOk F) (hp : PlanOk F p) (k : Φ (.dat (.tuple (dS (vtx F p n)))) ⟨sl, mem⟩) : C_vertex_in ([F.d, .tuple (dI p), .int (n : Int)].map SV.dat) [] (backP ⟨sl, mem⟩ Φ) := ⟨F, p, n, rfl, rfl, hF, hp, fun m' => k⟩
theorem use_walk {a b : List Str} (ha : NamesOk a) (hb : NamesOk b) (hl : a.length + b.length ≤ 1000000) (k : Φ (.dat (.tuple (dS (redS (a.reverse ++ b))))) ⟨sl, mem⟩) : C_walk ([.tuple (dS a), .tuple (dS b)].map SV.dat) [] (backP ⟨sl, mem⟩ Φ) := ⟨a, b, rfl, rfl, ha, hb, hl, fun m' => k⟩
end
end LW


namespace LW
open PySem PySem.Spec PyProof.Rows L2 SH
variable [WW]
theorem any_kv {V k : Nat} : ∀ {es : List (D × D)}, (∀ p ∈ es, Any V k p.1 ∧ Any V k p.2) → ascKv es = true ∧ PyData.weightKv es ≤ (2 * V + 2) * es.length ∧ PyData.depthKv es ≤ k
  | [], _ => ⟨rfl, Nat.zero_le _, Nat.zero_le _⟩
  | (a, b) :: es, h => by
    obtain ⟨ha, hb⟩ := h (a, b) List.mem_cons_self
    obtain ⟨h1, h2, h3⟩ := any_kv (es := es) fun p hp => h p (List.mem_cons_of_mem _ hp)
    have w1 := ha.wt
    have w2 := hb.wt
    have d1 := ha.dp
    have d2 := hb.dp
    refine ⟨?_, ?_, ?_⟩
    · unfold ascKv; rw [ha.as, hb.as, h1]; rfl
    · unfold PyData.weightKv
      rw [List.length_cons, Nat.mul_succ]
      simp only at w1 w2
      omega
    · unfold PyData.depthKv
      simp only at d1 d2
      omega
theorem any_dict {V k : Nat} {es : List (D × D)} (h : ∀ p ∈ es, Any V k p.1 ∧ Any V k p.2) : Any ((2 * V + 2) * es.length) (k + 1) (.dict es) := by
  obtain ⟨h1, h2, h3⟩ := any_kv h
  exact ⟨h1, h2, by show PyData.depthKv es + 1 ≤ k + 1; omega⟩
/-! ### what is held -/
end LW


namespace LW
open PySem PySem.Spec PyProof.Rows L2 SH
variable [WW]
/-! ### walks of edits -/
/-! ### prices, drawn -/
theorem leasesL_len {F : Fleet} (hF : FOk F) : (leasesL F).length ≤ 69 := by
  have h2 := leases_len hF
  rw [← leasesL_map, List.length_map] at h2
  exact h2
end LW


namespace LW
open PySem PySem.Spec PyProof.Rows L2 SH
variable [WW]
section
variable {sl : List SV} {mem : Mem} {Φ : SV → S → Prop} {b : Bag} {T j : Nat}
end
end LW

/-! an edit moves one lease: the states, the vertices, the tables behind it -/
namespace LW
open PySem PySem.Spec PyProof.Rows L2 SH
section
variable [WW]
theorem tog_gen {α : Type} {F : Fleet} {p : List Int} {x : Str} {b e : Nat} {S S' : Nat → α} {f : Str → α → α} (hb : 0 < b) (hbe : b ≤ e) (hxb : F.row[b - 1]? = some x) (hxe : e = F.row.length ∨ F.row[e]? = some x) (hs : stillB p b e = true)
    (h0 : S' 0 = S 0) (h1 : ∀ k, k < F.row.length → S (k + 1) = if (k : Int) ∈ p then f (F.row.getD k "") (S k) else S k) (h2 : ∀ k, k < F.row.length → S' (k + 1) = if (k : Int) ∈ togI F p b e then f (F.row.getD k "") (S' k) else S' k)
    (inv : ∀ k, k ≤ F.row.length → f x (f x (S k)) = S k) : ∀ k, k ≤ F.row.length → S' k = if b ≤ k ∧ k ≤ e then f x (S k) else S k
  | 0, _ => by rw [h0, if_neg (by omega)]
  | k + 1, hk => by
    have ih := tog_gen hb hbe hxb hxe hs h0 h1 h2 inv k (by omega)
    have hm : ((k : Int) ∈ togI F p b e) ↔ (((k : Int) ∈ p) ↔ ¬ (k + 1 = b ∨ k = e)) := by
      rw [mem_tog]
      constructor
      · intro h
        have h := h.2
        by_cases a : (k : Int) ∈ p <;> by_cases c : k + 1 = b ∨ k = e <;> simp [a, c] at h ⊢
      · intro h
        refine ⟨by omega, ?_⟩
        by_cases a : (k : Int) ∈ p <;> by_cases c : k + 1 = b ∨ k = e <;> simp [a, c] at h ⊢
    rw [h2 k (by omega), h1 k (by omega)]
    have rx : ∀ {j : Nat}, F.row[j]? = some x → F.row.getD j "" = x := fun h => by rw [List.getD_eq_getElem?_getD, h]; rfl
    by_cases c1 : k + 1 = b
    · rw [if_neg (by omega)] at ih
      have hr : F.row.getD k "" = x := rx (by rw [← hxb]; congr 1; omega)
      rw [if_pos (show b ≤ k + 1 ∧ k + 1 ≤ e by omega), ih, hr]
      by_cases a : (k : Int) ∈ p
      · rw [if_pos a, if_neg (fun z => (hm.mp z).mp a (.inl c1)), inv k (by omega)]
      · rw [if_neg a, if_pos (hm.mpr ⟨fun z => absurd z a, fun z => absurd (.inl c1) z⟩)]
    · by_cases c2 : k = e
      · have hr : F.row.getD k "" = x := by
          rcases hxe with z | z
          · omega
          · rw [c2]; exact rx z
        rw [if_pos (by omega)] at ih
        rw [if_neg (show ¬ (b ≤ k + 1 ∧ k + 1 ≤ e) by omega), ih, hr]
        by_cases a : (k : Int) ∈ p
        · rw [if_pos a, if_neg (fun z => (hm.mp z).mp a (.inr c2))]
        · rw [if_neg a, if_pos (hm.mpr ⟨fun z => absurd z a, fun z => absurd (.inr c2) z⟩), inv k (by omega)]
      · have hm2 : ((k : Int) ∈ togI F p b e) ↔ ((k : Int) ∈ p) := by
          rw [hm]
          exact ⟨fun h => h.mpr (fun z => z.elim c1 c2), fun h => ⟨fun _ z => z.elim c1 c2, fun _ => h⟩⟩
        by_cases c3 : b ≤ k ∧ k ≤ e
        · have hn : ¬ (k : Int) ∈ p := still_iff.mp hs k (by omega) (by omega)
          rw [if_pos c3] at ih
          rw [if_neg hn, if_neg (fun z => hn (hm2.mp z)), if_pos (by omega), ih]
        · rw [if_neg c3] at ih
          rw [if_neg (show ¬ (b ≤ k + 1 ∧ k + 1 ≤ e) by omega), ih]
          by_cases a : (k : Int) ∈ p
          · rw [if_pos a, if_pos (hm2.mpr a)]
          · rw [if_neg a, if_neg fun z => a (hm2.mp z)]
variable {F : Fleet} {p : List Int} {q : Str × Nat}
/-- what is known of a lease that may be edited -/
structure EdQ (F : Fleet) (p : List Int) (q : Str × Nat) : Prop where
  al : q ∈ allL F
  n0 : q.2 ≠ 0
  st : stillB p q.2 (endOf F q.1 q.2) = true
theorem EdQ.x (h : EdQ F p q) (hF : FOk F) : q.1 ∈ F.names := (allL_ok hF h.al).1
theorem EdQ.len (h : EdQ F p q) (hF : FOk F) : q.2 ≤ F.row.length := (allL_ok hF h.al).2
theorem EdQ.row (h : EdQ F p q) (hF : FOk F) : F.row[q.2 - 1]? = some q.1 := (lease_cases h.al).resolve_left h.n0
theorem vx_succ (hp : PlanOk F p) (k : Nat) : redS (hopsB F p (k + 1)) = if (k : Int) ∈ p then redS (redS (hopsB F p k) ++ [F.row.getD k ""]) else redS (hopsB F p k) := by
  rw [hopsB_succ hp]
  split
  · rw [redS_left]
  · rw [List.append_nil]
theorem vx_tog (hF : FOk F) (hp : PlanOk F p) (h : EdQ F p q) {k : Nat} (hk : k ≤ F.row.length) :
    redS (hopsB F (togQ F p q) k) = if q.2 ≤ k ∧ k ≤ endOf F q.1 q.2 then redS (redS (hopsB F p k) ++ [q.1]) else redS (hopsB F p k) := by
  refine NoI.keep (fun _ wNoI => ?_) ?_
  simp only [↓ NoI.wrOf wNoI (by
  clear wNoI
  obtain ⟨e1, e2, e3, e4⟩ := endOf_spec F q.1 q.2 (h.len hF)
  have hp' : PlanOk F (togQ F p q) := tog_ok
  refine tog_gen (S := fun k => redS (hopsB F p k)) (S' := fun k => redS (hopsB F (togQ F p q) k)) (f := fun x w => redS (w ++ [x])) (by have := h.n0; omega) e1 (h.row hF) e3 h.st ?_ (fun k _ => vx_succ hp k) (fun k _ => vx_succ hp' k) (fun k _ => ?_) k hk
  · show redS (hopsB F (togQ F p q) 0) = redS (hopsB F p 0)
    rw [hopsB_zero hp, hopsB_zero hp']
  · show redS (redS (redS (hopsB F p k) ++ [q.1]) ++ [q.1]) = redS (hopsB F p k)
    rw [redS_left, List.append_assoc, ← redS_right, redS_left]
    have : redS ([q.1] ++ [q.1]) = [] := redS_inv [q.1]
    rw [this, List.append_nil]
  )]
  intro _ hNoI
  simpa using (fun (_ : NoI.Sg) => hNoI) [5]
end
end LW

/-! tables of machines, an edit moves one lease -/
namespace LW
open PySem PySem.Spec PyProof.Rows L2 SH
variable [WW]
/-! ### contracts -/
end LW

namespace LW
open PySem PySem.Spec PyProof.Rows L2 SH
variable [WW]
end LW

end
section

local macro_rules | `(tactic| walk_at "ev1") => `(tactic| first
  | (with_reducible refine SH.ex_seq ?_)
  | (with_reducible refine SH.ev_orV ?_)
  | (with_reducible refine SH.ev_ckw ?_)
  | ((with_reducible show SH.MtS _ _ L2.rExtend _ _ _ _); refine SH.mt_extendS rfl rfl ?_ ?_; rotate_left 1)
  | ((with_reducible show SH.CbS _ _ SH.rTupR _ _ _); refine SH.cb_tupR rfl ?_ ?_ ?_; rotate_left 2)
  | (with_reducible refine SH.ev_notV ?_)
  | (with_reducible refine SH.ev_chain ?_)
  | (with_reducible refine SH.back ?_)
  | ((with_reducible show (true = true → _) ∧ (true = false → _)); refine ⟨fun _ => ?_, fun shh => Bool.noConfusion shh⟩)
  | ((with_reducible show (false = true → _) ∧ (false = false → _)); refine ⟨fun shh => Bool.noConfusion shh, fun _ => ?_⟩)
  | ((with_reducible show ((!true) = true → _) ∧ ((!true) = false → _)); refine ⟨fun shh => Bool.noConfusion shh, fun _ => ?_⟩)
  | ((with_reducible show ((!false) = true → _) ∧ ((!false) = false → _)); refine ⟨fun _ => ?_, fun shh => Bool.noConfusion shh⟩)
  | ((with_reducible show ∃ shE1 shE2, [_, _] = [shE1, shE2] ∧ _); refine ⟨_, _, rfl, ?_⟩)
  | ((with_reducible show ∃ shE1 shE2 shE3, [_, _, _] = [shE1, shE2, shE3] ∧ _); refine ⟨_, _, _, rfl, ?_⟩)
  | ((with_reducible show (∃ shE1, SH.rd _ _ = some (PySem.PyData.list shE1)) ∧ _); refine ⟨⟨_, rfl⟩, ?_⟩)
  | ((with_reducible show SH.MtS _ _ L2.rAppend _ _ _ _); refine SH.mt_appendS rfl ?_ ?_; rotate_left 1)
  | ((with_reducible show ∃ shE1 shE2, SH.rd _ (SH.SV.dat (PySem.PyData.bool _)) = some shE1 ∧ SH.truD shE1 = some shE2 ∧ _); refine ⟨_, _, rfl, rfl, by nofun, ?_⟩)
  | (with_reducible refine SH.ex_if ?_)
  | (with_reducible refine SH.ex_ret ?_)
  | (with_reducible refine SH.ex_drop ?_)
  | (with_reducible refine SH.ex_augS ?_)
  | (with_reducible refine SH.ex_put ?_)
  | ((with_reducible show SH.ExS _ _ _ (L2.tAsg _ (L2.gTup _ _ (L2.gCons (L2.gSub _ _ SH.rSetU) _))) _ _); refine SH.ex_asgT ?_)
  | ((with_reducible show SH.ExS _ _ _ (L2.tAsg _ (L2.gSub _ _ SH.rSetU)) _ _); refine SH.ex_asgT ?_)
  | (with_reducible refine SH.ex_asg ?_)
  | (with_reducible refine SH.ex_next ?_)
  | (with_reducible refine SH.ex_par ?_)
  | (with_reducible refine SH.ex_par3 ?_)
  | (with_reducible refine SH.ex_break ?_)
  | (with_reducible refine SH.ex_cont ?_)
  | (with_reducible refine SH.g_name ?_)
  | (with_reducible refine SH.gt_name ?_)
  | (with_reducible refine SH.gt_cons ?_)
  | (with_reducible refine SH.gt_nil ?_)
  | ((with_reducible refine SH.gt_tup (ds := ?shS) ?shA ?shB ?shD ?shC); (case shA => exact rfl); (case shB => exact rfl); (case shD => exact rfl))
  | (with_reducible refine SH.g_cons ?_)
  | (with_reducible refine SH.g_nil ?_)
  | ((with_reducible refine SH.g_tup (ds := ?shS) ?shA ?shB ?shD ?shC); (case shA => exact rfl); (case shB => exact rfl); (case shD => exact rfl))
  | (with_reducible refine SH.tt_test ?_)
  | (with_reducible refine SH.tt_tru ?_)
  | (with_reducible refine SH.tt_and ?_)
  | (with_reducible refine SH.tt_or ?_)
  | (with_reducible refine SH.tt_not ?_)
  | (with_reducible refine SH.tt_yes ?_)
  | (with_reducible refine SH.ev_isi (by decide) ?_)
  | (with_reducible refine SH.ev_dnew ?_)
  | (with_reducible refine SH.ev_disp1 ?_)
  | (with_reducible refine SH.ev_upper ?_)
  | (with_reducible refine SH.ev_int ?_)
  | (with_reducible refine SH.ev_str ?_)
  | (with_reducible refine SH.ev_bl ?_)
  | (with_reducible refine SH.ev_non ?_)
  | (with_reducible refine SH.ev_op ?_)
  | (with_reducible refine SH.ev_un ?_)
  | (with_reducible refine SH.ev_if ?_)
  | (with_reducible refine SH.ev_sl ?_)
  | (with_reducible refine SH.ev_cb ?_)
  | (with_reducible refine SH.ev_bmL ?_)
  | (with_reducible refine SH.ev_bmL0 ?_)
  | (with_reducible refine SH.ev_tupD ?_)
  | (with_reducible refine SH.ev_lstD ?_)
  | (with_reducible refine SH.ev_andV ?_)
  | (with_reducible refine SH.ev_join ?_)
  | (with_reducible refine SH.asD_dat ?_)
  | (with_reducible refine SH.ad_nil ?_)
  | (with_reducible refine SH.ad_cons ?_)
  | (with_reducible refine SH.ad_star ?_)
  | (with_reducible refine SH.ar_nil ?_)
  | (with_reducible refine SH.ar_cons ?_)
  | (with_reducible refine SH.pt_none ?_)
  | (with_reducible refine SH.pt_part ?_)
  | (with_reducible refine SH.it_range1 ?_)
  | (with_reducible refine SH.it_range2 ?_)
  | (with_reducible refine SH.it_seq ?_)
  | (with_reducible refine SH.it_walk ?_)
  | (with_reducible refine SH.it_zip ?_)
  | (with_reducible refine SH.it_itemsD ?_)
  | (with_reducible refine SH.it_valsD ?_)
  | (with_reducible refine SH.ev_lenSet ?_)
  | (with_reducible refine SH.it_range3 ?_)
  | (with_reducible refine SH.it_revR2 ?_)
  | (with_reducible refine SH.it_revR1 ?_)
  | (with_reducible refine SH.ev_dgX ?_)
  | ((with_reducible refine SH.ev_var (sv := ?shS) ?shA ?shB ?shC); (case shA => exact rfl); (case shB => (intro z; cases z)))
  | ((with_reducible refine SH.ev_callBD (j := ?shS) ?shA ?shC); (case shA => exact rfl))
  | (with_reducible refine SH.ev_callD ?_)
  | ((with_reducible show ∃ shE1, SH.SV.dat (PySem.PyData.bool _) = SH.SV.dat (PySem.PyData.bool shE1) ∧ _); refine ⟨_, rfl, ?_⟩)
  | ((with_reducible show ∃ shE1, SH.SV.dat (PySem.PyData.int _) = SH.SV.dat (PySem.PyData.int shE1) ∧ _); refine ⟨_, rfl, ?_⟩)
  | ((with_reducible refine And.intro (a := _ ≤ PySem.sizeLine) ?shA ?shC); (case shA => (first | decide | (rw [PySem.sizeLine_eq]; simp only [List.length_cons, List.length_nil, List.length_append, List.length_map]; omega))))
  | ((with_reducible refine SH.asD_own (ds := ?shS) ?shA ?shC); (case shA => exact rfl))
  | ((with_reducible show SH.OpS _ _ (SH.rIxU _) _ _ _ _); first | refine SH.os_uL rfl rfl rfl ?_ | refine SH.os_uT rfl rfl rfl ?_)
  | ((with_reducible show SH.OpS _ _ (SH.rAddU _) _ _ _ _); first | refine SH.os_addI rfl rfl ?_ | (refine SH.os_addS rfl rfl ?_ ?_; rotate_left 1) | (refine SH.os_addL rfl rfl ?_ ?_; rotate_left 1) | (refine SH.os_addT rfl rfl ?_ ?_; rotate_left 1))
  | ((with_reducible show SH.OpS _ _ (SH.rMulX _) _ _ _ _); first | (refine SH.os_mxI rfl rfl ?_ ?_; rotate_left 1) | (refine SH.os_mxS rfl rfl ?_ ?_; rotate_left 1))
  | ((with_reducible show SH.OpS _ _ (SH.rEqU _) _ _ _ _); first | refine SH.os_eqI rfl rfl ?_ | refine SH.os_eqS rfl rfl ?_ | refine SH.os_eqO rfl rfl ?_)
  | ((with_reducible show SH.OpS _ _ (SH.rNeU _) _ _ _ _); first | refine SH.os_neI rfl rfl ?_ | refine SH.os_neS rfl rfl ?_ | refine SH.os_neO rfl rfl ?_)
  | ((with_reducible show SH.OpS _ _ _ _ _ _ _); first | refine SH.os_lt rfl rfl ?_ | refine SH.os_le rfl rfl ?_ | refine SH.os_gt rfl rfl ?_ | refine SH.os_ge rfl rfl ?_ | refine SH.os_sub rfl rfl ?_ | (refine SH.os_mod rfl rfl (by decide) ?_) | (refine SH.os_mod rfl rfl ?_ ?_; rotate_left 1) | (refine SH.os_div rfl rfl (by decide) (by decide) ?_) | (refine SH.os_div rfl rfl ?_ ?_ ?_; rotate_left 2) | (refine SH.os_pow rfl rfl ?_ ?_; rotate_left 1))
  | ((with_reducible show SH.UnS _ _ _ _ _ _); first | refine SH.un_neg' rfl ?_)
  | ((with_reducible show SH.SlS _ _ _ _ _ _ _ _); first | refine SH.sl_L rfl ?_ | refine SH.sl_T rfl ?_ | (refine SH.sl_S rfl ?_ ?_; rotate_left 1) | refine SH.sl_ro rfl ?_)
  | ((with_reducible show SH.CbS _ _ (SH.rLenX _) _ _ _); refine SH.cb_lx rfl rfl ?_)
  | ((with_reducible show SH.CbS _ _ _ _ _ _); first | refine SH.cb_lenL rfl ?_ | refine SH.cb_lenT rfl ?_ | (refine SH.cb_lenS rfl ?_ ?_; rotate_left 1) | refine SH.cb_abs rfl ?_ | refine SH.cb_int rfl ?_ | refine SH.cb_listWL rfl ?_ | refine SH.cb_listWT rfl ?_ | refine SH.cb_tupL rfl ?_ | refine SH.cb_tupT rfl ?_ | refine SH.cb_min2 rfl rfl ?_ | refine SH.cb_max2 rfl rfl ?_ | refine SH.cb_rng1 rfl ?_ | refine SH.cb_rng2 rfl rfl ?_))
local macro_rules | `(tactic| walk_at "ev") => `(tactic| repeat walk_at "ev1")
local macro_rules | `(tactic| walk_at "wk") => `(tactic| (repeat' first | exact trivial | exact Or.inl rfl | (refine And.intro ?_ ?_) | exact Or.inr rfl | (refine Or.inr ⟨rfl, ?_⟩; intro j e; first | (cases e; done) | (cases e; show _ < _; first | decide | simp))))
local macro_rules | `(tactic| walk_at "nrm") => `(tactic| dsimp only [SH.S.fz, SH.SV.fz, List.map, List.set, SH.wipeS, List.cons_append, List.nil_append, List.length_cons, List.length_nil, Nat.beq, List.replicate])
local macro_rules | `(tactic| walk_at "go") => `(tactic| (walk_at "ev"; (try walk_at "nrm"); walk_at "ev"; (try walk_at "nrm"); walk_at "ev"; (try walk_at "nrm")))


namespace LW
open PySem PySem.Spec PyProof.Rows L2 SH
variable [WW]
section
variable {sl : List SV} {mem : Mem} {Φ : SV → S → Prop}
end
section
variable {K : PySem.W.Frag} {Zc : Addr → Prop} {s : S} {Φ : SV → S → Prop} {x y : SV}
end
section
variable {sl : List SV} {mem : Mem} {Φ : SV → S → Prop} {F : Fleet} {p : List Int}
end
end LW


namespace LW
open PySem PySem.Spec PyProof.Rows L2 SH
variable [WW]
section
variable {sl : List SV} {mem : Mem} {Φ : SV → S → Prop} {F : Fleet} {p : List Int}
theorem use_lend17 {q : Str × Nat} (hF : FOk F) (hq : q ∈ allL F) (k : Φ (.dat (.int (endOf F q.1 q.2 : Int))) ⟨sl, mem⟩) : C__law_end ([F.d, leaseD q].map SV.dat) [] (backP ⟨sl, mem⟩ Φ) := ⟨F, q, rfl, rfl, hF, hq, fun m' => k⟩
end
theorem filter_one {α : Type} [DecidableEq α] {l : List α} {a : α} (hn : l.Nodup) (h : a ∈ l) : l.filter (fun r => decide (r = a)) = [a] := by
  refine NoI.keep (fun _ wNoI => ?_) ?_
  simp only [↓ NoI.wrOf wNoI (by
  clear wNoI
  induction l with
  | nil => cases h
  | cons b l ih =>
    obtain ⟨h1, h2⟩ := List.nodup_cons.mp hn
    rw [List.filter_cons]
    by_cases e : b = a
    · subst e
      rw [if_pos (decide_eq_true rfl), List.filter_eq_nil_iff.mpr fun x hx => by simp; intro z; exact h1 (z ▸ hx)]
    · rw [if_neg (by simp [e])]
      exact ih h2 ((List.mem_cons.mp h).resolve_left fun z => e z.symm)
  )]
  intro _ hNoI
  simpa using (fun (_ : NoI.Sg) => hNoI) [5]
theorem leasesL_nd {F : Fleet} (hF : FOk F) : (leasesL F).Nodup := (leasesL_perm F).nodup_iff.mpr (allL_nodup hF)
end LW


namespace LW
open PySem PySem.Spec PyProof.Rows L2 SH
variable [WW]
section
variable {sl : List SV} {mem : Mem} {Φ : SV → S → Prop} {F : Fleet} {p : List Int}
end
theorem can_ed {F : Fleet} {p : List Int} {ps : List (Str × Nat)} {q : Str × Nat} (hq : q ∈ allL F) (h : canQ F p ps q = true) : EdQ F p q ∧ q ∉ ps := by
  simp only [canQ, Bool.and_eq_true, Bool.not_eq_true', decide_eq_true_eq, decide_eq_false_iff_not] at h
  exact ⟨⟨hq, h.1, h.2.2⟩, h.2.1⟩
end LW

/-! ways, how far apart plans are; fleets that are cut, exchanges -/
namespace LW
open PySem PySem.Spec PyProof.Rows L2 SH
variable [WW]
/-- how far apart two plans are at a lease -/
def apartB (F : Fleet) (p q : List Int) (l : Lq) : Nat := cntW (vtx F p l.2) (vtx F q l.2) l.1
def distB (F : Fleet) (p q : List Int) : Int := ((leasesL F).map fun l => (apartB F p q l : Int)).sum
/-- the restarts are cut -/
def Fleet.cut (F : Fleet) (n : Nat) : Fleet := ⟨F.names, F.places, F.row.take n⟩
def nearL (F : Fleet) (p : List Int) (ps : List Lq) : List D := ((leasesL F).filter (canQ F p ps)).map fun q => .tuple [leaseD q, .tuple (dI (togQ F p q))]
/-! ### contracts -/
def C_apart : Ct := fun svs m Ψ => ∃ (F : Fleet) (p q : List Int) (l : Lq), svs = [.dat F.d, .dat (.tuple (dI p)), .dat (.tuple (dI q)), .dat (leaseD l)] ∧ m = [] ∧ FOk F ∧ PlanOk F p ∧ PlanOk F q ∧ l ∈ allL F ∧ ∀ m', Ψ (.dat (.int (apartB F p q l : Int))) m'
def C_distance : Ct := fun svs m Ψ => ∃ (F : Fleet) (p q : List Int), svs = [.dat F.d, .dat (.tuple (dI p)), .dat (.tuple (dI q))] ∧ m = [] ∧ FOk F ∧ PlanOk F p ∧ PlanOk F q ∧ ∀ m', Ψ (.dat (.int (distB F p q))) m'
def C__law_cut_fleet : Ct := fun svs m Ψ => ∃ (b : Bag) (T many most : Nat), svs = [.own 0, .dat (.int (many : Int)), .dat (.int (most : Int))] ∧ m = [some b.d] ∧ WB (T + 300) b ∧ 1 ≤ many ∧ many ≤ 9 ∧ 3 * most ≤ 60 ∧
  ∀ m' (F : Fleet) (b' : Bag), FOk F → F.names.length = many → F.row.length ≤ most → WB T b' → m'[0]? = some (some b'.d) → Ψ (.dat F.d) m'
def C__law_middle : Ct := fun svs m Ψ => ∃ (b : Bag) (T : Nat), svs = [.own 0] ∧ m = [some b.d] ∧ WB (T + 302) b ∧
  ∀ m' (F : Fleet) (b' : Bag), FOk F → F.names.length ≤ 4 → F.row.length ≤ 8 → WB T b' → m'[0]? = some (some b'.d) → Ψ (.dat F.d) m'
def C__law_exchanged : Ct := fun svs m Ψ => ∃ (F : Fleet) (p : List Int) (q : Lq), svs = [.dat F.d, .dat (.tuple (dI p)), .dat (leaseD q)] ∧ m = [] ∧ FOk F ∧ PlanOk F p ∧ q ∈ allL F ∧ q.2 ≠ 0 ∧ ∀ m', Ψ (.dat (.tuple (dI (togQ F p q)))) m'
def C__law_near : Ct := fun svs m Ψ => ∃ (F : Fleet) (p : List Int) (ps : List Lq), svs = [.dat F.d, .dat (.tuple (dI p)), .dat (pinsD ps)] ∧ m = [] ∧ FOk F ∧ PlanOk F p ∧ PinsOk F ps ∧ ∀ m' i, m'[i]? = some (some (.list (nearL F p ps))) → Ψ (.own i) m'
end LW

namespace LW
open PySem PySem.Spec PyProof.Rows L2 SH
variable [WW]
def t_apart (K : PySem.W.Frag) : TS :=
  (tSeq (tAsg (tVar 3) (gTup K 2 (gCons (gName 4) (gCons (gName 5) gNil))))
  (tRet (tCnt K (tCall (spP K C_walk) [] E0 (tCons (tCall (spP K C_vertex_in) [] E0 (tCons (tVar 0) (tCons (tVar 1) (tCons (tVar 5) tNil)))) (tCons (tCall (spP K C_vertex_in) [] E0 (tCons (tVar 0) (tCons (tVar 2) (tCons (tVar 5) tNil)))) tNil))) (tVar 4))))
def t_distance (K : PySem.W.Frag) : TS :=
  (tRet (tCB (SH.rSum K) (tCons (tLc (iSeq K (tCall (spP K C_leases_of) [] E0 (tCons (tVar 0) tNil))) (gName 3) tYes (tCall (spP K C_apart) [] E0 (tCons (tVar 0) (tCons (tVar 1) (tCons (tVar 2) (tCons (tVar 3) tNil))))) [3]) tNil)))
def t__law_fleet_v2 (K : PySem.W.Frag) : TS :=
  (tSeq (tPar 3 4 (tCons (tCB (rTupU K) (tCons (tCB (rSortX K) (tCons (tCall (spP K C__law_names) [] E0 (tCons (tVar 0) (tCons (tVar 1) tNil))) tNil)) tNil)) (tCons (tCall (spP K C__law_take) [] E0 (tCons (tVar 0) (tCons (tC (.int 5)) tNil))) tNil)))
  (tSeq (tAsg (tCB (rTupU K) (tCons (tSl (rSlU K) (tCall (spP K C__law_mixed) [] E0 (tCons (tVar 0) (tCons (tCB (rListW K) (tCons (tCB (rRng) (tCons (tOp (rAddU K) (tVar 1) (tC (.int 1))) tNil)) tNil)) tNil))) tNoPart (tPart (tVar 1))) tNil)) (gName 5))
  (tSeq (tPar 6 7 (tCons (tCB (rListW K) (tCons (tVar 3) tNil)) (tCons (tLst tNil) tNil)))
  (tSeq (tIfS (tAnd (tTest (tOp (rEqU K) (tVar 4) (tC (.int 1)))) (tTest (tOp (rI0 fun i j => .bl (decide (j < i))) (tVar 1) (tC (.int 1)))))
    (tDrop (tBM K "list" rPopAt (tVar 6) (tCons (tCall (spP K C__law_take) [] E0 (tCons (tVar 0) (tCons (tVar 1) tNil))) tNil)))
    tNext)
  (tSeq (tFor (iRng1 (tCons (tCall (spP K C__law_take) [] E0 (tCons (tVar 0) (tCons (tOp (rAddU K) (tVar 2) (tC (.int 1))) tNil))) tNil)) (gName 8)
    (tSeq (tIfS (tTest (tOp (rEqU K) (tVar 4) (tC (.int 2))))
    (tAsg (tOp (rIxU K) (tVar 6) (tOp (rI (fun _ j => j ≠ 0) fun i j => .int (i.fmod j)) (tCB (rInt1) (tCons (tVar 8) tNil)) (tCB (rLenU K) (tCons (tVar 6) tNil)))) (gName 9))
    (tIfS (tAnd (tTest (tOp (rEqU K) (tVar 4) (tC (.int 3)))) (tAnd (tTest (tOp (rNeU K) (tVar 7) (tLst tNil))) (tTest (tOp (rEqU K) (tCall (spP K C__law_take) [] E0 (tCons (tVar 0) (tCons (tC (.int 2)) tNil))) (tC (.int 0))))))
    (tAsg (tOp (rIxU K) (tVar 7) (tUn (rU fun i => .int (-i)) (tC (.int 1)))) (gName 9))
    (tAsg (tCall (spP K C__law_some) [] E0 (tCons (tVar 0) (tCons (tVar 6) tNil))) (gName 9))))
  (tDrop (tBM K "list" rAppend (tVar 7) (tCons (tVar 9) tNil)))))
  (tRet (tTupF (tCons (tVar 3) (tCons (tVar 5) (tCons (tCB (rTupU K) (tCons (tVar 7) tNil)) tNil))))))))))
def t__law_cut_fleet (K : PySem.W.Frag) : TS :=
  (tSeq (tAsg (tCall (spP K C__law_fleet) [] E0 (tCons (tVar 0) (tCons (tVar 1) (tCons (tOp (rMulX K) (tC (.int 3)) (tVar 2)) tNil)))) (gTup K 3 (gCons (gName 3) (gCons (gName 4) (gCons (gName 5) gNil)))))
  (tRet (tTupF (tCons (tVar 3) (tCons (tVar 4) (tCons (tSl (rSlU K) (tVar 5) tNoPart (tPart (tVar 2))) tNil))))))
def t__law_middle (K : PySem.W.Frag) : TS :=
  (tRet (tCall (spP K C__law_cut_fleet) [] E0 (tCons (tVar 0) (tCons (tCall (spP K C__law_some) [] E0 (tCons (tVar 0) (tCons (tLst (tCons (tC (.int 2)) (tCons (tC (.int 3)) (tCons (tC (.int 1)) (tCons (tC (.int 4)) (tCons (tC (.int 2)) tNil)))))) tNil))) (tCons (tCall (spP K C__law_some) [] E0 (tCons (tVar 0) (tCons (tLst (tCons (tC (.int 6)) (tCons (tC (.int 4)) (tCons (tC (.int 8)) tNil)))) tNil))) tNil)))))
def t__law_exchanged (K : PySem.W.Frag) : TS :=
  (tSeq (tAsg (tCall (spP K C__law_end) [] E0 (tCons (tVar 0) (tCons (tVar 2) tNil))) (gName 3))
  (tSeq (tAsg (tOp (rAddU K) (tLst (tCons (tOp (rI0 fun i j => .int (i - j)) (tOp (rIxU K) (tVar 2) (tC (.int 1))) (tC (.int 1))) tNil)) (tOp (rMulX K) (tLst (tCons (tVar 3) tNil)) (tCB (rInt1) (tCons (tOp (rI0 fun i j => .bl (decide (i < j))) (tVar 3) (tCB (rLenU K) (tCons (tOp (rIxU K) (tVar 0) (tC (.int 2))) tNil))) tNil)))) (gName 4))
  (tRet (tCB (rTupU K) (tCons (tCB (rSortX K) (tCons (tOp (rAddU K) (tLc (iSeq K (tVar 1)) (gName 5) (tTest (tOp (rInX K true) (tVar 5) (tVar 4))) (tVar 5) [5]) (tLc (iSeq K (tVar 4)) (gName 5) (tTest (tOp (rInX K true) (tVar 5) (tVar 1))) (tVar 5) [5])) tNil)) tNil)))))
def t__law_near (K : PySem.W.Frag) : TS :=
  (tSeq (tPar 3 4 (tCons (tOp (rIxU K) (tCall (spP K C__law_stands) [] E0 (tCons (tVar 0) (tCons (tVar 1) tNil))) (tC (.int 1))) (tCons (tLst tNil) tNil)))
  (tSeq (tFor (iSeq K (tCall (spP K C__law_leases) [] E0 (tCons (tVar 0) tNil))) (gName 5)
    (tSeq (tAsg (tSl (rSlU K) (tVar 3) (tPart (tOp (rIxU K) (tVar 5) (tC (.int 1)))) (tPart (tOp (rAddU K) (tCall (spP K C__law_end) [] E0 (tCons (tVar 0) (tCons (tVar 5) tNil))) (tC (.int 1))))) (gName 6))
  (tIfS (tAnd (tTest (tOp (rI0 fun i j => .bl (decide (j < i))) (tOp (rIxU K) (tVar 5) (tC (.int 1))) (tC (.int 0)))) (tAnd (tTest (tOp (rInX K true) (tVar 5) (tVar 2))) (tTest (tOp (rEqU K) (tVar 6) (tOp (rMulX K) (tSl (rSlU K) (tVar 6) tNoPart (tPart (tC (.int 1)))) (tCB (rLenU K) (tCons (tVar 6) tNil)))))))
    (tDrop (tBM K "list" rAppend (tVar 4) (tCons (tTupF (tCons (tVar 5) (tCons (tCall (spP K C__law_exchanged) [] E0 (tCons (tVar 0) (tCons (tVar 1) (tCons (tVar 5) tNil)))) tNil))) tNil)))
    tNext)))
  (tRet (tVar 4))))
end LW


namespace LW
open PySem PySem.Spec PyProof.Rows L2 SH
variable [WW]
section
variable {sl : List SV} {mem : Mem} {Φ : SV → S → Prop} {b : Bag} {T j : Nat}
theorem use_apart {F : Fleet} {p q : List Int} {l : Lq} (hF : FOk F) (hp : PlanOk F p) (hq : PlanOk F q) (hl : l ∈ allL F) (k : Φ (.dat (.int (apartB F p q l : Int))) ⟨sl, mem⟩) : C_apart ([F.d, .tuple (dI p), .tuple (dI q), leaseD l].map SV.dat) [] (backP ⟨sl, mem⟩ Φ) := ⟨F, p, q, l, rfl, rfl, hF, hp, hq, hl, fun m' => k⟩
theorem use_cutFleet {many most : Nat} (hm : mem[j]? = some (some b.d)) (hw : WB (T + 300) b) (m1 : 1 ≤ many) (m9 : many ≤ 9) (mm : 3 * most ≤ 60) (k : ∀ (F : Fleet) (b' : Bag), FOk F → F.names.length = many → F.row.length ≤ most → WB T b' → Φ (.dat F.d) ⟨sl, mem.set j (some b'.d)⟩) :
    ∃ bs, mem[j]? = some (some bs) ∧ C__law_cut_fleet (.own 0 :: [.int (many : Int), .int (most : Int)].map SV.dat) [some bs] (backB ⟨sl, mem⟩ j Φ) :=
  ⟨_, hm, b, T, many, most, rfl, rfl, hw, m1, m9, mm, fun m' F b' h1 h2 h3 hw' hm' => ⟨_, _, rfl, hm', k F b' h1 h2 h3 hw'⟩⟩
end
theorem wp_apart {K : PySem.W.Frag} : ∀ Zc svs m Ψ, C_apart svs m Ψ → ExS K Zc m.length (t_apart K) ⟨svs ++ List.replicate (6 - svs.length) .un, m⟩ (retE Ψ) := by
  refine NoI.keep (fun _ wNoI => ?_) ?_
  simp only [↓ NoI.wrOf wNoI (by
  clear wNoI
  rintro Zc _ _ Ψ ⟨F, p, q, ⟨x, n⟩, rfl, rfl, hF, hp, hq, hl, k⟩
  unfold t_apart
  show ExS _ _ _ _ ⟨[.dat F.d, .dat (.tuple (dI p)), .dat (.tuple (dI q)), .dat (leaseD (x, n)), .un, .un], []⟩ _
  walk_at "go"
  have h1 := vtx_len hF hp n
  have h2 := vtx_len hF hq n
  refine ev_cntT ?_
  walk_at "go"
  refine use_vtx hF hp ?_
  walk_at "go"
  refine use_vtx hF hq ?_
  walk_at "go"
  refine use_walk (vtx_names hF hp _) (vtx_names hF hq _) (by omega) ?_
  walk_at "go"
  refine ⟨_, rfl, ?_⟩
  walk_at "go"
  refine ⟨_, rfl, ?_⟩
  rw [cntW_red (vtx_red F p n) (vtx_red F q n)]
  exact k _
  )]
  intro _ hNoI
  simpa using (fun (_ : NoI.Sg) => hNoI) [5]
theorem wp_distance {K : PySem.W.Frag} : ∀ Zc svs m Ψ, C_distance svs m Ψ → ExS K Zc m.length (t_distance K) ⟨svs ++ List.replicate (4 - svs.length) .un, m⟩ (retE Ψ) := by
  refine NoI.keep (fun _ wNoI => ?_) ?_
  simp only [↓ NoI.wrOf wNoI (by
  clear wNoI
  rintro Zc _ _ Ψ ⟨F, p, q, rfl, rfl, hF, hp, hq, k⟩
  unfold t_distance
  show ExS _ _ _ _ ⟨[.dat F.d, .dat (.tuple (dI p)), .dat (.tuple (dI q)), .un], []⟩ _
  have hll := leases_len hF
  walk_at "go"
  refine ev_lcP (it_seq ?_)
  walk_at "go"
  refine use_leasesOf hF ?_
  walk_at "go"
  refine ⟨_, rfl, ((leasesL F).map fun l => (apartB F p q l : Int)).map PyData.int, by simp [leasesL], by simp [leasesL]; omega, ?_, ?_⟩
  · rintro i d e m' hd he rfl
    obtain ⟨l, hl, rfl, hm⟩ := leases_at hd
    rw [List.getElem?_map, List.getElem?_map, hl] at he
    cases he
    walk_at "go"
    refine use_apart hF hp hq hm ?_
    walk_at "go"
    refine ⟨rfl, Wk.of (by walk_at "wk") (by walk_at "wk")⟩
  · walk_at "go"
    refine cb_sumL (ns := (leasesL F).map fun l => (apartB F p q l : Int)) rfl ?_
    exact k _
  )]
  intro _ hNoI
  simpa using (fun (_ : NoI.Sg) => hNoI) [5]
theorem wp__law_fleet_v2 {K : PySem.W.Frag} : ∀ Zc svs m Ψ, C__law_fleet svs m Ψ → ExS K Zc m.length (t__law_fleet_v2 K) ⟨svs ++ List.replicate (10 - svs.length) .un, m⟩ (retE Ψ) := wp__law_fleet
theorem wp__law_cut_fleet {K : PySem.W.Frag} : ∀ Zc svs m Ψ, C__law_cut_fleet svs m Ψ → ExS K Zc m.length (t__law_cut_fleet K) ⟨svs ++ List.replicate (6 - svs.length) .un, m⟩ (retE Ψ) := by
  refine NoI.keep (fun _ wNoI => ?_) ?_
  simp only [↓ NoI.wrOf wNoI (by
  clear wNoI
  rintro Zc _ _ Ψ ⟨b, T, many, most, rfl, rfl, hw, m1, m9, mm, k⟩
  unfold t__law_cut_fleet
  show ExS _ _ _ _ ⟨[.own 0, .dat (.int (many : Int)), .dat (.int (most : Int)), .un, .un, .un], [some b.d]⟩ _
  walk_at "go"
  rw [show (3 : Int) * (most : Int) = ((3 * most : Nat) : Int) by omega]
  refine use_fleet (T := T) rfl hw (by omega) (by omega) (by omega) (by omega) fun F b2 hF hn hr hw2 => ?_
  walk_at "go"
  · rw [cut_tS]
    have hz : (F.row.take most).length ≤ most := by rw [List.length_take]; omega
    exact k _ ⟨F.names, F.places, F.row.take most⟩ b2 ⟨hF.n1, hF.n9, hF.ok, hF.nd, hF.so, hF.pl, hF.pd, hF.pr, fun x hx => hF.rw x (List.mem_of_mem_take hx), Nat.le_trans hz (by omega)⟩ (show F.names.length = many by omega) hz hw2 rfl
  · exact mul62 (by omega)
  )]
  intro _ hNoI
  simpa using (fun (_ : NoI.Sg) => hNoI) [5]
theorem wp__law_middle {K : PySem.W.Frag} : ∀ Zc svs m Ψ, C__law_middle svs m Ψ → ExS K Zc m.length (t__law_middle K) ⟨svs ++ List.replicate (1 - svs.length) .un, m⟩ (retE Ψ) := by
  refine NoI.keep (fun _ wNoI => ?_) ?_
  simp only [↓ NoI.wrOf wNoI (by
  clear wNoI
  rintro Zc _ _ Ψ ⟨b, T, rfl, rfl, hw, k⟩
  unfold t__law_middle
  show ExS _ _ _ _ ⟨[.own 0], [some b.d]⟩ _
  walk_at "go"
  refine use_some (T := T + 301) rfl hw rfl (by nofun) (by simp) fun d b2 hd hw2 => ?_
  obtain ⟨v, v1, v4, rfl⟩ : ∃ v : Nat, 1 ≤ v ∧ v ≤ 4 ∧ d = .int (v : Int) := by
    simp at hd
    rcases hd with rfl | rfl | rfl | rfl | rfl
    · exact ⟨2, by decide, by decide, rfl⟩
    · exact ⟨3, by decide, by decide, rfl⟩
    · exact ⟨1, by decide, by decide, rfl⟩
    · exact ⟨4, by decide, by decide, rfl⟩
    · exact ⟨2, by decide, by decide, rfl⟩
  walk_at "go"
  refine use_some (T := T + 300) rfl hw2 rfl (by nofun) (by simp) fun d b3 hd hw3 => ?_
  obtain ⟨u, u8, rfl⟩ : ∃ u : Nat, u ≤ 8 ∧ d = .int (u : Int) := by
    simp at hd
    rcases hd with rfl | rfl | rfl
    · exact ⟨6, by decide, rfl⟩
    · exact ⟨4, by decide, rfl⟩
    · exact ⟨8, by decide, rfl⟩
  walk_at "go"
  refine use_cutFleet (T := T) rfl hw3 v1 (by omega) (by omega) fun F b4 hF hn hr hw4 => ?_
  walk_at "go"
  exact k _ F b4 hF (by omega) (by omega) hw4 rfl
  )]
  intro _ hNoI
  simpa using (fun (_ : NoI.Sg) => hNoI) [5]
end LW


namespace LW
open PySem PySem.Spec PyProof.Rows L2 SH
variable [WW]
theorem cb_intBool {K : PySem.W.Frag} {Zc : Addr → Prop} {s : S} {x : SV} {Φ : SV → S → Prop} {c : Bool} (h1 : rd s.mem x = some (.bool c)) (k : Φ (.dat (.int (if c then 1 else 0))) s) : CbS K Zc rInt1 [x] s Φ := by
  intro ad H σ vs Q I r p
  obtain ⟨v, rfl, r1⟩ := vrs1 r
  have dv := rd_D I.mr r1 h1
  cases dv
  exact .inr ⟨c, rfl, p.val I k (sv := .dat _) (.int _)⟩
theorem os_inXI {K : PySem.W.Frag} {Zc : Addr → Prop} {s : S} {x y : SV} {Φ : SV → S → Prop} {neg : Bool} {i : Int} {ns : List Int} {d : D} (h1 : rd s.mem x = some (.int i)) (h2 : rd s.mem y = some d) (hs : seqD d = some (ns.map PyData.int)) (k : Φ (.dat (.bool (if neg then !decide (i ∈ ns) else decide (i ∈ ns)))) s) : OpS K Zc (rInX K neg) x y s Φ :=
  fun ad H σ v u Q I r1 r2 p => .inl (os_inI h1 h2 hs k ad H σ v u Q I r1 r2 p)
/-- the two restarts at the ends of a lease -/
def endsI (F : Fleet) (q : Str × Nat) : List Int := [(q.2 : Int) - 1] ++ (List.replicate (if endOf F q.1 q.2 < F.row.length then 1 else 0) [(endOf F q.1 q.2 : Int)]).flatten
theorem mem_endsI {F : Fleet} {q : Str × Nat} {j : Int} : j ∈ endsI F q ↔ j = (q.2 : Int) - 1 ∨ (j = (endOf F q.1 q.2 : Int) ∧ endOf F q.1 q.2 < F.row.length) := by
  unfold endsI
  split
  · rename_i h
    simp [h]
  · rename_i h
    simp [h]
theorem exch_perm {F : Fleet} {p : List Int} {q : Str × Nat} {ys : List Int} (hF : FOk F) (hp : PlanOk F p) (hq : q ∈ allL F) (h0 : q.2 ≠ 0) (hy : ys.Perm (p.filter (fun j => !decide (j ∈ endsI F q)) ++ (endsI F q).filter (fun j => !decide (j ∈ p)))) (hs : ys.Pairwise (· ≤ ·)) : ys = togQ F p q := by
  refine NoI.keep (fun _ wNoI => ?_) ?_
  simp only [↓ NoI.wrOf wNoI (by
  clear wNoI
  have hb := (allL_ok hF hq).2
  obtain ⟨e1, e2, e3, e4⟩ := endOf_spec F q.1 q.2 hb
  have nd : (p.filter (fun j => !decide (j ∈ endsI F q)) ++ (endsI F q).filter (fun j => !decide (j ∈ p))).Nodup := by
    rw [List.nodup_append]
    refine ⟨(hp.a.imp fun h => Int.ne_of_lt h).sublist List.filter_sublist, List.Pairwise.sublist List.filter_sublist ?_, fun a ha b hb e => ?_⟩
    · unfold endsI
      split
      · simp; omega
      · simp
    · subst e
      have h1 := (List.mem_filter.mp ha).1
      have h2 := (List.mem_filter.mp hb).2
      simp [h1] at h2
  have lt : ys.Pairwise (· < ·) := by
    have := (hy.nodup_iff.mpr nd)
    exact (hs.and this).imp fun h => by have := h.1; have := h.2; omega
  have mem : ∀ j, j ∈ ys ↔ (j ∈ p ∧ j ∉ endsI F q) ∨ (j ∈ endsI F q ∧ j ∉ p) := fun j => by
    rw [hy.mem_iff, List.mem_append, List.mem_filter, List.mem_filter]
    simp
  have ok : PlanOk F ys := ⟨fun j hj => by
    rcases (mem j).mp hj with ⟨h, _⟩ | ⟨h, _⟩
    · exact hp.r j h
    · rcases mem_endsI.mp h with h | ⟨h, h2⟩
      · omega
      · omega, lt⟩
  refine plan_ext ok tog_ok fun j => ?_
  show (j : Int) ∈ ys ↔ (j : Int) ∈ togI F p q.2 (endOf F q.1 q.2)
  rw [mem, mem_tog]
  have hme : ((j : Int) ∈ endsI F q ∧ j < F.row.length) ↔ ((j + 1 = q.2 ∨ j = endOf F q.1 q.2) ∧ j < F.row.length) := by
    rw [mem_endsI]; omega
  by_cases hj : j < F.row.length
  · have hme : (j : Int) ∈ endsI F q ↔ (j + 1 = q.2 ∨ j = endOf F q.1 q.2) := ⟨fun h => (hme.mp ⟨h, hj⟩).1, fun h => (hme.mpr ⟨h, hj⟩).1⟩
    rw [hme]
    by_cases a : (j : Int) ∈ p <;> by_cases c : (j + 1 = q.2 ∨ j = endOf F q.1 q.2) <;> simp [a, c, hj]
  · have n1 : (j : Int) ∉ p := fun z => by have := hp.r _ z; omega
    have n2 : (j : Int) ∉ endsI F q := fun z => by rcases mem_endsI.mp z with z | ⟨z, z2⟩ <;> omega
    simp [n1, n2, hj]
  )]
  intro _ hNoI
  simpa using (fun (_ : NoI.Sg) => hNoI) [5]
set_option maxHeartbeats 0 in
theorem wp__law_exchanged {K : PySem.W.Frag} : ∀ Zc svs m Ψ, C__law_exchanged svs m Ψ → ExS K Zc m.length (t__law_exchanged K) ⟨svs ++ List.replicate (6 - svs.length) .un, m⟩ (retE Ψ) := by
  refine NoI.keep (fun _ wNoI => ?_) ?_
  simp only [↓ NoI.wrOf wNoI (by
  clear wNoI
  rintro Zc _ _ Ψ ⟨F, p, ⟨x, b⟩, rfl, rfl, hF, hp, hq, h0, k⟩
  unfold t__law_exchanged
  show ExS _ _ _ _ ⟨[.dat F.d, .dat (.tuple (dI p)), .dat (leaseD (x, b)), .un, .un, .un], []⟩ _
  have hpl := plan_len hF hp
  have hel : (endsI F (x, b)).length ≤ 2 := by
    unfold endsI
    split <;> simp
  refine ex_cut (fun s => s = ⟨[.dat F.d, .dat (.tuple (dI p)), .dat (leaseD (x, b)), .dat (.int (endOf F x b : Int)), .un, .un], []⟩) ?_ ?_
  · walk_at "go"
    refine use_lend17 hF hq ?_
    walk_at "go"
    exact To.of _ rfl (by walk_at "wk") (by walk_at "wk") (by simp)
  rintro _ rfl _
  refine ex_cut (fun s => s = ⟨[.un, .dat (.tuple (dI p)), .un, .un, .own 3, .un], [none, none, none, some (.list (dI (endsI F (x, b))))]⟩) ?_ ?_
  · walk_at "go"
    refine cb_intBool rfl ?_
    walk_at "go"
    refine os_mxL rfl rfl (by split <;> decide) (by split <;> decide) (by simp) ?_
    walk_at "go"
    · have e : (PyData.int ((b : Int) - 1) :: (List.replicate (if decide ((endOf F x b : Int) < ((dS F.row).length : Int)) = true then (1 : Int) else 0).toNat [PyData.int (endOf F x b : Int)]).flatten) = dI (endsI F (x, b)) := by
        unfold endsI
        simp only [dS_len]
        by_cases c : endOf F x b < F.row.length
        · simp [c, dI]
        · simp [c, dI]
      rw [e]
      exact To.of _ rfl (by walk_at "wk") (by walk_at "wk") (by simp)
    · refine small ?_
      split <;> simp
  rintro _ rfl _
  walk_at "go"
  refine ev_lcG (it_seq ?_)
  walk_at "go"
  refine ⟨_, rfl, intG (fun j => !decide (j ∈ endsI F (x, b))), by simp [dI]; omega, ?_, ?_⟩
  · rintro i d m' hd rfl
    rw [dI, List.getElem?_map] at hd
    obtain ⟨j, hj, rfl⟩ := Option.map_eq_some_iff.mp hd
    walk_at "go"
    refine os_inXI (ns := endsI F (x, b)) (d := .list (dI (endsI F (x, b)))) rfl rfl rfl ?_
    walk_at "go"
    refine ⟨fun h => ?_, fun h => ?_⟩
    · refine ⟨_, intG_t h, ?_⟩
      walk_at "go"
      exact ⟨rfl, Wk.of (by walk_at "wk") (by walk_at "wk")⟩
    · exact ⟨intG_f h, Wk.of (by walk_at "wk") (by walk_at "wk")⟩
  · rw [filterMap_intG]
    walk_at "go"
    refine ev_lcG (it_seq ?_)
    walk_at "go"
    refine ⟨_, rfl, intG (fun j => !decide (j ∈ p)), by simp [dI]; omega, ?_, ?_⟩
    · rintro i d m' hd rfl
      rw [dI, List.getElem?_map] at hd
      obtain ⟨j, hj, rfl⟩ := Option.map_eq_some_iff.mp hd
      walk_at "go"
      refine os_inXI (ns := p) (d := .tuple (dI p)) rfl rfl rfl ?_
      walk_at "go"
      refine ⟨fun h => ?_, fun h => ?_⟩
      · refine ⟨_, intG_t h, ?_⟩
        walk_at "go"
        exact ⟨rfl, Wk.of (by walk_at "wk") (by walk_at "wk")⟩
      · exact ⟨intG_f h, Wk.of (by walk_at "wk") (by walk_at "wk")⟩
    · rw [filterMap_intG]
      walk_at "go"
      · rw [show dI (List.filter (fun j => !decide (j ∈ endsI F (x, b))) p) ++ dI (List.filter (fun j => !decide (j ∈ p)) (endsI F (x, b))) = dI (p.filter (fun j => !decide (j ∈ endsI F (x, b))) ++ (endsI F (x, b)).filter (fun j => !decide (j ∈ p))) by simp [dI]]
        refine cb_sortXI rfl ?_ fun ys hy hs => ?_
        · have l1 : (p.filter (fun j => !decide (j ∈ endsI F (x, b)))).length ≤ p.length := List.length_filter_le _ _
          have l2 : ((endsI F (x, b)).filter (fun j => !decide (j ∈ p))).length ≤ (endsI F (x, b)).length := List.length_filter_le _ _
          rw [List.length_append]
          omega
        · have e := exch_perm hF hp hq h0 hy hs
          subst e
          walk_at "go"
          exact k _
      · refine small ?_
        have l1 : (p.filter (fun j => !decide (j ∈ endsI F (x, b)))).length ≤ p.length := List.length_filter_le _ _
        have l2 : ((endsI F (x, b)).filter (fun j => !decide (j ∈ p))).length ≤ (endsI F (x, b)).length := List.length_filter_le _ _
        simp [dI]
        omega
  )]
  intro _ hNoI
  simpa using (fun (_ : NoI.Sg) => hNoI) [5]
end LW


namespace LW
open PySem PySem.Spec PyProof.Rows L2 SH
variable [WW]
section
variable {sl : List SV} {mem : Mem} {Φ : SV → S → Prop}
theorem use_exch {F : Fleet} {p : List Int} {q : Str × Nat} (hF : FOk F) (hp : PlanOk F p) (hq : q ∈ allL F) (h0 : q.2 ≠ 0) (k : Φ (.dat (.tuple (dI (togQ F p q)))) ⟨sl, mem⟩) : C__law_exchanged ([F.d, .tuple (dI p), leaseD q].map SV.dat) [] (backP ⟨sl, mem⟩ Φ) := ⟨F, p, q, rfl, rfl, hF, hp, hq, h0, fun m' => k⟩
end
def nearP (F : Fleet) (p : List Int) (q : Str × Nat) : D := .tuple [leaseD q, .tuple (dI (togQ F p q))]
def nearTo (F : Fleet) (p : List Int) (ps : List (Str × Nat)) (i : Nat) : List D := (((leasesL F).take i).filter (canQ F p ps)).map (nearP F p)
theorem nearTo_succ {F : Fleet} {p : List Int} {ps : List (Str × Nat)} {i : Nat} {q : Str × Nat} (h : (leasesL F)[i]? = some q) : nearTo F p ps (i + 1) = nearTo F p ps i ++ if canQ F p ps q = true then [nearP F p q] else [] := by
  refine NoI.keep (fun _ wNoI => ?_) ?_
  simp only [↓ NoI.wrOf wNoI (by
  clear wNoI
  unfold nearTo
  rw [List.take_add_one, h, List.filter_append, List.map_append]
  congr 1
  show List.map _ (List.filter _ [q]) = _
  by_cases c : canQ F p ps q = true
  · rw [if_pos c, List.filter_cons_of_pos c]; rfl
  · rw [if_neg c, List.filter_cons_of_neg c]; rfl
  )]
  intro _ hNoI
  simpa using (fun (_ : NoI.Sg) => hNoI) [5]
set_option maxHeartbeats 0 in
theorem wp__law_near {K : PySem.W.Frag} : ∀ Zc svs m Ψ, C__law_near svs m Ψ → ExS K Zc m.length (t__law_near K) ⟨svs ++ List.replicate (7 - svs.length) .un, m⟩ (retE Ψ) := by
  refine NoI.keep (fun _ wNoI => ?_) ?_
  simp only [↓ NoI.wrOf wNoI (by
  clear wNoI
  rintro Zc _ _ Ψ ⟨F, p, ps, rfl, rfl, hF, hp, hps, k⟩
  unfold t__law_near
  show ExS _ _ _ _ ⟨[.dat F.d, .dat (.tuple (dI p)), .dat (pinsD ps), .un, .un, .un, .un], []⟩ _
  have hrl := hF.rl
  have hll := leases_len hF
  refine ex_cut (fun s => s = ⟨[.dat F.d, .dat (.tuple (dI p)), .dat (pinsD ps), .dat (.list (dI (standsF F p))), .own 0, .un, .un], [some (.list [])]⟩) ?_ ?_
  · walk_at "go"
    refine use_stands2 hF hp ?_
    walk_at "go"
    exact To.of _ rfl (by walk_at "wk") (by walk_at "wk") (by simp)
  rintro _ rfl _
  refine ex_cut (fun s => s = ⟨[.un, .un, .un, .un, .own 0, .un, .un], [some (.list (nearTo F p ps (leasesL F).length))]⟩) ?_ ?_
  · refine ex_for (it_seq ?_)
    walk_at "go"
    refine ⟨F, rfl, rfl, hF, fun m' l hm => ?_⟩
    show (match m'[l]? with | some (some ds) => _ | _ => False)
    rw [hm]
    walk_at "go"
    refine ⟨_, rfl, fun i s => s = ⟨[.dat F.d, .dat (.tuple (dI p)), .dat (pinsD ps), .dat (.list (dI (standsF F p))), .own 0, .un, .un], [some (.list (nearTo F p ps i))]⟩, To.of _ rfl (by walk_at "wk") (by walk_at "wk") (by simp), ?_, ?_⟩
    · rintro i d _ hd rfl _
      obtain ⟨q, hq, rfl, hqa⟩ := leases_at hd
      have nx := nearTo_succ (p := p) (ps := ps) hq
      obtain ⟨e1, e2⟩ := end_ok hF hqa
      have hsl : (sparesI F p q.2 (endOf F q.1 q.2)).length ≤ 61 := by
        unfold sparesI fromTo
        rw [List.length_map, List.length_range']
        omega
      have hnl : (nearTo F p ps i).length ≤ 69 := by
        unfold nearTo
        rw [List.length_map]
        refine Nat.le_trans (List.length_filter_le _ _) ?_
        rw [List.length_take, ← List.length_map (f := leaseD), leasesL_map]
        omega
      have same : canQ F p ps q = false → nearTo F p ps (i + 1) = nearTo F p ps i := fun h => by
        rw [nx, if_neg (by rw [h]; exact Bool.false_ne_true), List.append_nil]
      rw [canQ] at nx same
      refine g_name ?_
      walk_at "nrm"
      refine ex_cut (fun s => s = ⟨[.dat F.d, .dat (.tuple (dI p)), .dat (pinsD ps), .dat (.list (dI (standsF F p))), .own 0, .dat (leaseD q), .own 1], [some (.list (nearTo F p ps i)), some (.list (dI (sparesI F p q.2 (endOf F q.1 q.2))))]⟩) ?_ ?_
      · walk_at "go"
        refine use_endL hF hqa ?_
        walk_at "go"
        rw [spares_cut e1 e2]
        exact To.of _ rfl (by walk_at "wk") (by walk_at "wk") (by simp)
      rintro _ rfl _
      walk_at "go"
      refine ⟨fun h => ?_, fun h => ?_⟩
      · have h : q.2 ≠ 0 := by have := of_decide_eq_true h; omega
        rw [decide_eq_true h, Bool.true_and] at nx same
        walk_at "go"
        refine os_inQ hF hqa hps rfl rfl ?_
        walk_at "go"
        rw [if_pos rfl]
        refine ⟨fun h2 => ?_, fun h2 => ?_⟩
        · rw [h2, Bool.true_and, ← spares_same hF hp e1 e2] at nx same
          walk_at "go"
          refine os_mxL (ds := (dI (sparesI F p q.2 (endOf F q.1 q.2))).take 1) (n := ((sparesI F p q.2 (endOf F q.1 q.2)).length : Int)) ?_ ?_ (by omega) (by omega) (by rw [List.length_take]; omega) ?_
          · rw [show SH.cutD (dI (sparesI F p q.2 (endOf F q.1 q.2))) none (some 1) = (dI (sparesI F p q.2 (endOf F q.1 q.2))).take 1 from cut_to (k := 1)]
            rfl
          · rw [dI_len]; rfl
          rw [Int.toNat_natCast, rep_take]
          walk_at "go"
          refine os_eq (d := .list (dI (sparesI F p q.2 (endOf F q.1 q.2)))) (e := .list (dI (List.replicate (sparesI F p q.2 (endOf F q.1 q.2)).length ((sparesI F p q.2 (endOf F q.1 q.2)).take 1)).flatten)) rfl rfl (shaped_dI _) (shaped_dI _) ?_
          rw [eqv_ints]
          walk_at "go"
          refine ⟨fun h3 => ?_, fun h3 => ?_⟩
          · rw [h3] at nx
            rw [if_pos rfl] at nx
            walk_at "go"
            refine use_exch hF hp hqa h ?_
            walk_at "go"
            · show To 0 (fun s => s = ⟨[.dat F.d, .dat (.tuple (dI p)), .dat (pinsD ps), .dat (.list (dI (standsF F p))), .own 0, .un, .un], [some (.list (nearTo F p ps (i + 1)))]⟩) _
              rw [nx]
              exact To.of _ rfl (by walk_at "wk") (by walk_at "wk") (by simp)
            · exact small (by omega)
          · rw [h3] at same
            walk_at "go"
            show To 0 (fun s => s = ⟨[.dat F.d, .dat (.tuple (dI p)), .dat (pinsD ps), .dat (.list (dI (standsF F p))), .own 0, .un, .un], [some (.list (nearTo F p ps (i + 1)))]⟩) _
            rw [same rfl]
            exact To.of _ rfl (by walk_at "wk") (by walk_at "wk") (by simp)
        · rw [h2, Bool.false_and] at same
          refine ⟨fun z => (by cases z), fun _ => ?_⟩
          walk_at "go"
          show To 0 (fun s => s = ⟨[.dat F.d, .dat (.tuple (dI p)), .dat (pinsD ps), .dat (.list (dI (standsF F p))), .own 0, .un, .un], [some (.list (nearTo F p ps (i + 1)))]⟩) _
          rw [same rfl]
          exact To.of _ rfl (by walk_at "wk") (by walk_at "wk") (by simp)
      · have h : q.2 = 0 := by have := of_decide_eq_false h; omega
        rw [decide_eq_false (by omega), Bool.false_and] at same
        refine ⟨fun z => (by cases z), fun _ => ?_⟩
        walk_at "go"
        show To 0 (fun s => s = ⟨[.dat F.d, .dat (.tuple (dI p)), .dat (pinsD ps), .dat (.list (dI (standsF F p))), .own 0, .un, .un], [some (.list (nearTo F p ps (i + 1)))]⟩) _
        rw [same rfl]
        exact To.of _ rfl (by walk_at "wk") (by walk_at "wk") (by simp)
    · rintro _ rfl _
      rw [show (leasesD F).length = (leasesL F).length by rw [← leasesL_map, List.length_map]]
      exact To.of _ rfl (by walk_at "wk") (by walk_at "wk") (by simp)
  rintro _ rfl _
  walk_at "go"
  have e : nearTo F p ps (leasesL F).length = nearL F p ps := by unfold nearTo nearL; rw [List.take_length]; rfl
  rw [e]
  exact k _ 0 rfl
  )]
  intro _ hNoI
  simpa using (fun (_ : NoI.Sg) => hNoI) [5]
end LW

/-! how far apart, lease by lease -/
namespace LW
open PySem PySem.Spec PyProof.Rows L2 SH
variable [WW]
def apE (F : Fleet) (p q : List Int) : List (TK × D) := (leasesL F).map fun l => (leaseTK l, .int (apartB F p q l : Int))
def apX (F : Fleet) (p q : List Int) : List (TK × D) := ((leasesL F).filter fun l => decide (0 < apartB F p q l)).map fun l => (leaseTK l, .int (apartB F p q l : Int))
def C_aparts : Ct := fun svs m Ψ => ∃ (F : Fleet) (p q : List Int), svs = [.dat F.d, .dat (.tuple (dI p)), .dat (.tuple (dI q))] ∧ m = [] ∧ FOk F ∧ PlanOk F p ∧ PlanOk F q ∧ ∀ m' i, m'[i]? = some (some (.dict (dx (apX F p q)))) → Ψ (.own i) m'
end LW

namespace LW
open PySem PySem.Spec PyProof.Rows L2 SH
variable [WW]
def t_aparts (K : PySem.W.Frag) : TS :=
  (tSeq (tAsg (tDcX K (iSeq K (tCall (spP K C_leases_of) [] E0 (tCons (tVar 0) tNil))) (gName 4) tYes (tVar 4) (tCall (spP K C_apart) [] E0 (tCons (tVar 0) (tCons (tVar 1) (tCons (tVar 2) (tCons (tVar 4) tNil))))) [4]) (gName 3))
  (tRet (tDcX K (iItemsD (tVar 3)) (gTup K 2 (gCons (gName 4) (gCons (gName 5) gNil))) (tTest (tOp (rI0 fun i j => .bl (decide (j < i))) (tVar 5) (tC (.int 0)))) (tVar 4) (tVar 5) [4, 5])))
end LW


namespace LW
open PySem PySem.Spec PyProof.Rows L2 SH
variable [WW]
theorem apE_keys {F : Fleet} (hF : FOk F) (p q : List Int) : ((apE F p q).map (·.1)).Nodup := by
  have h := tableE_keys hF p
  unfold apE
  unfold tableE at h
  rw [List.map_map] at h ⊢
  exact h
theorem apX_sub (F : Fleet) (p q : List Int) : (apX F p q).Sublist (apE F p q) := List.Sublist.map _ List.filter_sublist
/-- the pair's entry, where it is one -/
def apG : D → Option (TK × D)
  | .tuple [.tuple [.str x, .int k], .int n] => if 0 < n then some ([.text x, .num k], .int n) else none
  | _ => none
theorem apG_pairs (F : Fleet) (p q : List Int) : ∀ ls : List (Str × Nat), (SH.pairD (dx (ls.map fun l => (leaseTK l, (.int (apartB F p q l : Int) : D))))).filterMap apG = (ls.filter fun l => decide (0 < apartB F p q l)).map fun l => (leaseTK l, (.int (apartB F p q l : Int) : D))
  | [] => rfl
  | (x, n) :: ls => by
    have ih := apG_pairs F p q ls
    show List.filterMap apG (.tuple [.tuple [.str x, .int (n : Int)], .int (apartB F p q (x, n) : Int)] :: SH.pairD (dx (ls.map fun l => (leaseTK l, (.int (apartB F p q l : Int) : D))))) = _
    rw [List.filterMap_cons, List.filter_cons]
    by_cases c : 0 < apartB F p q (x, n)
    · have e : apG (.tuple [.tuple [.str x, .int (n : Int)], .int (apartB F p q (x, n) : Int)]) = some (leaseTK (x, n), .int (apartB F p q (x, n) : Int)) := if_pos (by omega)
      rw [e, if_pos (decide_eq_true c), ih]
      rfl
    · have e : apG (.tuple [.tuple [.str x, .int (n : Int)], .int (apartB F p q (x, n) : Int)]) = none := if_neg (by omega)
      rw [e, if_neg (by simp [c]), ih]
set_option maxHeartbeats 0 in
theorem wp_aparts {K : PySem.W.Frag} : ∀ Zc svs m Ψ, C_aparts svs m Ψ → ExS K Zc m.length (t_aparts K) ⟨svs ++ List.replicate (6 - svs.length) .un, m⟩ (retE Ψ) := by
  refine NoI.keep (fun _ wNoI => ?_) ?_
  simp only [↓ NoI.wrOf wNoI (by
  clear wNoI
  rintro Zc _ _ Ψ ⟨F, p, q, rfl, rfl, hF, hp, hq, k⟩
  unfold t_aparts
  show ExS _ _ _ _ ⟨[.dat F.d, .dat (.tuple (dI p)), .dat (.tuple (dI q)), .un, .un, .un], []⟩ _
  have hll := leases_len hF
  have hel : (apE F p q).length ≤ 69 := by rw [apE, List.length_map, ← List.length_map (f := leaseD), leasesL_map]; exact hll
  refine ex_cut (fun s => s = ⟨[.un, .un, .un, .own 0, .un, .un], [some (.dict (dx (apE F p q)))]⟩) ?_ ?_
  · walk_at "go"
    refine ev_dcP gw_name (it_seq ?_)
    walk_at "go"
    refine use_leasesOf hF ?_
    walk_at "go"
    refine ⟨_, rfl, apE F p q, by rw [apE, List.length_map, leasesL, List.length_map], by omega, apE_keys hF p q, fun e he => ?_, ?_, ?_⟩
    · obtain ⟨l, _, rfl⟩ := List.mem_map.mp he
      exact lease_dp l
    · rintro i d e m' hd he rfl
      obtain ⟨l, hl, rfl, hm⟩ := leases_at hd
      rw [apE, List.getElem?_map, hl] at he
      cases he
      walk_at "go"
      refine use_apart hF hp hq hm ?_
      walk_at "go"
      refine ⟨rfl, rfl, Wk.of (by walk_at "wk") (by walk_at "wk")⟩
    · walk_at "go"
      exact To.of _ rfl (by walk_at "wk") (by walk_at "wk") (by simp)
  rintro _ rfl _
  refine ex_ret ?_
  refine ev_dcF (gw_pair (by simp) (by simp)) (it_itemsD ?_)
  walk_at "go"
  have hfm : (SH.pairD (dx (apE F p q))).filterMap apG = apX F p q := apG_pairs F p q (leasesL F)
  refine ⟨_, rfl, fun e he => ?_, apG, by simp [SH.pairD, dx]; omega, ?_, fun e he => ?_, ?_, ?_⟩
  · obtain ⟨e, he, rfl⟩ := List.mem_map.mp he
    rfl
  · rw [hfm]
    exact (apE_keys hF p q).sublist ((apX_sub F p q).map _)
  · rw [hfm] at he
    obtain ⟨l, _, rfl⟩ := List.mem_map.mp he
    exact lease_dp l
  · rintro i d m' hd rfl
    obtain ⟨⟨x, n⟩, rfl⟩ : ∃ l : Str × Nat, d = .tuple [leaseD l, .int (apartB F p q l : Int)] := by
      rw [SH.pairD, List.getElem?_map] at hd
      obtain ⟨e, he, rfl⟩ := Option.map_eq_some_iff.mp hd
      rw [dx, List.getElem?_map] at he
      obtain ⟨e2, he2, rfl⟩ := Option.map_eq_some_iff.mp he
      rw [apE, List.getElem?_map] at he2
      obtain ⟨l, hl, rfl⟩ := Option.map_eq_some_iff.mp he2
      exact ⟨l, rfl⟩
    walk_at "go"
    refine ⟨fun h => ?_, fun h => ?_⟩
    · have h : 0 < apartB F p q (x, n) := by have := of_decide_eq_true h; omega
      refine ⟨(leaseTK (x, n), .int (apartB F p q (x, n) : Int)), if_pos (by omega), ?_⟩
      walk_at "go"
      refine ⟨rfl, rfl, Wk.of (by walk_at "wk") (by walk_at "wk")⟩
    · have h : ¬ 0 < apartB F p q (x, n) := by have := of_decide_eq_false h; omega
      exact ⟨if_neg (by omega), Wk.of (by walk_at "wk") (by walk_at "wk")⟩
  · rw [hfm]
    exact k _ _ rfl
  )]
  intro _ hNoI
  simpa using (fun (_ : NoI.Sg) => hNoI) [5]
end LW

/-! edges of the tree, near and far -/
namespace LW
open PySem PySem.Spec PyProof.Rows L2 SH
variable [WW]
end LW

namespace LW
open PySem PySem.Spec PyProof.Rows L2 SH
variable [WW]
end LW


namespace LW
open PySem PySem.Spec PyProof.Rows L2 SH
variable [WW]
section
variable {sl : List SV} {mem : Mem} {Φ : SV → S → Prop}
end
end LW

/-! how many edges of a service lie between two words: parity, triangle, what stays; plans that are nowhere apart -/
namespace LW
open PySem PySem.Spec PyProof.Rows L2 SH
section
variable [WW]
theorem com_cnt (a b : List Str) (x : Str) : cntW a b x + 2 * (a.take (comL a b)).count x = a.count x + b.count x := by
  refine NoI.keep (fun _ wNoI => ?_) ?_
  simp only [↓ NoI.wrOf wNoI (by
  clear wNoI
  unfold cntW
  rw [wayL_srv, List.count_append, List.count_reverse]
  have e1 : (a.take (comL a b)).count x + (a.drop (comL a b)).count x = a.count x := by rw [← List.count_append, List.take_append_drop]
  have e2 : (b.take (comL a b)).count x + (b.drop (comL a b)).count x = b.count x := by rw [← List.count_append, List.take_append_drop]
  have e3 : (a.take (comL a b)).count x = (b.take (comL a b)).count x := by rw [comL_take]
  omega
  )]
  intro _ hNoI
  simpa using (fun (_ : NoI.Sg) => hNoI) [5]
theorem com_snoc {y x : Str} (h : y ≠ x) : ∀ a b : List Str, ((a ++ [y]).take (comL (a ++ [y]) b)).count x = (a.take (comL a b)).count x
  | [], [] => rfl
  | [], v :: b => by
    by_cases e : y = v
    · subst e
      show (List.take (comL (y :: []) (y :: b)) [y]).count x = _
      rw [comL_cons, List.take_succ_cons, List.count_cons]
      simp [h]
    · show (List.take (comL (y :: []) (v :: b)) [y]).count x = _
      rw [comL_ne e]
      simp
  | u :: a, [] => by rw [comL_nil, comL_nil]; rfl
  | u :: a, v :: b => by
    by_cases e : u = v
    · subst e
      rw [List.cons_append, comL_cons, comL_cons, List.take_succ_cons, List.take_succ_cons, List.count_cons, List.count_cons, com_snoc h a b]
    · rw [List.cons_append, comL_ne e, comL_ne e]; rfl
theorem cnt_snoc {y x : Str} (h : y ≠ x) (a b : List Str) : cntW (a ++ [y]) b x = cntW a b x := by
  refine NoI.keep (fun _ wNoI => ?_) ?_
  simp only [↓ NoI.wrOf wNoI (by
  clear wNoI
  have e1 := com_cnt (a ++ [y]) b x
  have e2 := com_cnt a b x
  have e3 := com_snoc h a b
  have e4 : (a ++ [y]).count x = a.count x := by
    rw [List.count_append, List.count_cons]
    simp [h]
  omega
  )]
  intro _ hNoI
  simpa using (fun (_ : NoI.Sg) => hNoI) [5]
theorem snoc_stk (w : List Str) (y : Str) : redS (redS w ++ [y]) = (push (stk w) y).reverse := by
  refine NoI.keep (fun _ wNoI => ?_) ?_
  simp only [↓ NoI.wrOf wNoI (by
  clear wNoI
  unfold redS
  have : stk ((stk w).reverse ++ [y]) = push (stk w) y := by
    have e : stk ((stk w).reverse) = stk w := stk_redS w
    show ((stk w).reverse ++ [y]).foldl push [] = _
    rw [List.foldl_append]
    show push (stk ((stk w).reverse)) y = _
    rw [e]
  rw [this]
  )]
  intro _ hNoI
  simpa using (fun (_ : NoI.Sg) => hNoI) [5]
theorem cnt_push {y x : Str} (h : y ≠ x) (w b : List Str) : cntW (redS (redS w ++ [y])) b x = cntW (redS w) b x := by
  refine NoI.keep (fun _ wNoI => ?_) ?_
  simp only [↓ NoI.wrOf wNoI (by
  clear wNoI
  rw [snoc_stk]
  unfold redS
  generalize stk w = st
  cases st with
  | nil => exact cnt_snoc h [] b
  | cons z zs =>
    rw [show push (z :: zs) y = if z = y then zs else y :: z :: zs from rfl]
    split
    · rename_i e
      subst e
      rw [List.reverse_cons]
      exact (cnt_snoc h _ b).symm
    · rw [List.reverse_cons (a := y)]
      exact cnt_snoc h _ b
  )]
  intro _ hNoI
  simpa using (fun (_ : NoI.Sg) => hNoI) [5]
theorem cnt_comm (a b : List Str) (x : Str) : cntW a b x = cntW b a x := by
  refine NoI.keep (fun _ wNoI => ?_) ?_
  simp only [↓ NoI.wrOf wNoI (by
  clear wNoI
  have e1 := com_cnt a b x
  have e2 := com_cnt b a x
  have e3 : (a.take (comL a b)).count x = (b.take (comL b a)).count x := by rw [comL_comm b a, comL_take]
  omega
  )]
  intro _ hNoI
  simpa using (fun (_ : NoI.Sg) => hNoI) [5]
theorem take_cnt (a : List Str) (n : Nat) (x : Str) : (a.take n).count x ≤ a.count x := (List.take_sublist n a).count_le x
theorem com_tri (x : Str) : ∀ a b c : List Str, (a.take (comL a b)).count x + (b.take (comL b c)).count x ≤ b.count x + (a.take (comL a c)).count x
  | [], b, c => by
    have := take_cnt b (comL b c) x
    simp
    omega
  | u :: a, [], c => by simp [comL_nil]
  | u :: a, v :: b, [] => by
    have e := take_cnt (v :: b) (comL (u :: a) (v :: b)) x
    rw [comL_nil, comL_nil, comL_take]
    simp
    simpa using e
  | u :: a, v :: b, w :: c => by
    by_cases e : u = v
    · subst e
      by_cases f : u = w
      · subst f
        have := com_tri x a b c
        rw [comL_cons, comL_cons, comL_cons, List.take_succ_cons, List.take_succ_cons, List.take_succ_cons, List.count_cons, List.count_cons, List.count_cons, List.count_cons]
        omega
      · have := take_cnt (u :: b) (comL (u :: a) (u :: b)) x
        rw [comL_take (u :: a) (u :: b), comL_ne f]
        simp only [List.take_zero, List.count_nil]
        omega
    · have := take_cnt (v :: b) (comL (v :: b) (w :: c)) x
      rw [comL_ne e]
      simp only [List.take_zero, List.count_nil]
      omega
theorem cnt_tri (a b c : List Str) (x : Str) : cntW a c x ≤ cntW a b x + cntW b c x := by
  have e1 := com_cnt a b x
  have e2 := com_cnt b c x
  have e3 := com_cnt a c x
  have e4 := com_tri x a b c
  omega
theorem cnt_par (a b c : List Str) (x : Str) : (cntW a b x + cntW b c x + cntW c a x) % 2 = 0 := by
  have e1 := com_cnt a b x
  have e2 := com_cnt b c x
  have e3 := com_cnt c a x
  omega
theorem cnt_same (a : List Str) (x : Str) : cntW a a x = 0 := by
  have e := com_cnt a a x
  rw [comL_self, List.take_length] at e
  omega
theorem comL_app : ∀ a l : List Str, comL a (a ++ l) = a.length
  | [], l => rfl
  | u :: a, l => by rw [List.cons_append, comL_cons, comL_app a l, List.length_cons]
theorem cnt_one (a : List Str) (x : Str) : cntW a (a ++ [x]) x = 1 := by
  have e := com_cnt a (a ++ [x]) x
  rw [comL_app, List.take_length, List.count_append, List.count_cons] at e
  simp at e
  omega
theorem cnt_step (w : List Str) (x : Str) : cntW (redS w) (redS (redS w ++ [x])) x = 1 := by
  refine NoI.keep (fun _ wNoI => ?_) ?_
  simp only [↓ NoI.wrOf wNoI (by
  clear wNoI
  rw [snoc_stk]
  unfold redS
  generalize stk w = st
  cases st with
  | nil => exact cnt_one [] x
  | cons z zs =>
    rw [show push (z :: zs) x = if z = x then zs else x :: z :: zs from rfl]
    split
    · rename_i e
      subst e
      rw [List.reverse_cons, cnt_comm]
      exact cnt_one _ z
    · rw [List.reverse_cons (a := x)]
      exact cnt_one _ x
  )]
  intro _ hNoI
  simpa using (fun (_ : NoI.Sg) => hNoI) [5]
/-! ### plans -/
variable {F : Fleet} {p q r : List Int}
theorem dist_nn (F : Fleet) (p q : List Int) : 0 ≤ distB F p q := by
  unfold distB
  generalize leasesL F = ls
  induction ls with
  | nil => exact Int.le_refl _
  | cons l ls ih => rw [List.map_cons, List.sum_cons]; omega
end
end LW

/-! how far apart, told another way; a dict that is compared and changed later -/
namespace LW
open PySem PySem.Spec PyProof.Rows L2 SH
variable [WW]
end LW

namespace LW
open PySem PySem.Spec PyProof.Rows L2 SH
variable [WW]
end LW


namespace LW
open PySem PySem.Spec PyProof.Rows L2 SH
variable [WW]
theorem layI : ∀ ns : List Int, PyData.canLayAll0 (dI ns) = true
  | [] => rfl
  | n :: ns => by
    show (true && PyData.canLayAll0 (dI ns)) = true
    rw [layI ns]; rfl
theorem near_lay {F : Fleet} {p : List Int} (hF : FOk F) : ∀ l : List Lq, (∀ q ∈ l, q ∈ allL F) → PyData.canLayAll0 (l.map (nearP F p)) = true
  | [], _ => rfl
  | q :: l, h => by
    show ((nearP F p q).canLay0 && PyData.canLayAll0 (l.map (nearP F p))) = true
    rw [near_lay hF l fun r hr => h r (List.mem_cons_of_mem _ hr), Bool.and_true]
    have h1 := SeqAt.canLay_of_shaped (lease_shaped hF (allL_ok hF (h q List.mem_cons_self)).1 q.2)
    show ((leaseD q).canLay0 && (PyData.canLayAll0 (dI (togQ F p q)) && true)) = true
    rw [layI, show (leaseD q).canLay0 = true from h1]; rfl
theorem near_dp {F : Fleet} {p : List Int} (q : Lq) : (nearP F p q).depth ≤ 2 := by
  refine NoI.keep (fun _ wNoI => ?_) ?_
  simp only [↓ NoI.wrOf wNoI (by
  clear wNoI
  have h : PyData.depthAll (dI (togQ F p q)) ≤ 0 := dp_le fun d hd => by
    obtain ⟨i, _, rfl⟩ := List.mem_map.mp hd
    exact Nat.le_refl _
  simp [nearP, leaseD, PyData.depth, PyData.depthAll]
  omega
  )]
  intro _ hNoI
  simpa using (fun (_ : NoI.Sg) => hNoI) [5]
theorem near_shaped {F : Fleet} {p : List Int} {ps : List Lq} (hF : FOk F) : SeqAt.shaped (.list (nearL F p ps)) = true := by
  refine NoI.keep (fun _ wNoI => ?_) ?_
  simp only [↓ NoI.wrOf wNoI (by
  clear wNoI
  have e : nearL F p ps = ((leasesL F).filter (canQ F p ps)).map (nearP F p) := rfl
  have h1 : PyData.canLayAll0 (nearL F p ps) = true := by
    rw [e]
    exact near_lay hF _ (editQ_in p ps)
  have h2 : PyData.depthAll (nearL F p ps) ≤ 2 := dp_le fun d hd => by
    rw [e] at hd
    obtain ⟨q, _, rfl⟩ := List.mem_map.mp hd
    exact near_dp q
  unfold SeqAt.shaped
  rw [show (PyData.list (nearL F p ps)).canLay0 = true from h1, decide_eq_true (by simp only [PyData.depth]; omega)]
  rfl
  )]
  intro _ hNoI
  simpa using (fun (_ : NoI.Sg) => hNoI) [5]
section
variable {sl : List SV} {mem : Mem} {Φ : SV → S → Prop} {b : Bag} {T j : Nat}
end
end LW


namespace LW
open PySem PySem.Spec PyProof.Rows L2 SH
variable [WW]
end LW


namespace LW
open PySem PySem.Spec PyProof.Rows L2 SH
variable [WW]
section
variable {F : Fleet} {p q : List Int}
theorem apart_le (hF : FOk F) (hp : PlanOk F p) (hq : PlanOk F q) (l : Lq) : apartB F p q l ≤ 200 := by
  have h1 := cntW_le (vtx F p l.2) (vtx F q l.2) l.1
  have h2 := vtx_len hF hp l.2
  have h3 := vtx_len hF hq l.2
  unfold apartB
  omega
theorem any_nat {n : Nat} (h : n ≤ 100000) : Any 170 0 (.int (n : Int)) :=
  any_int (Nat.lt_of_le_of_lt (show (n : Int).natAbs ≤ 100000 by omega) (by decide +kernel)) (Nat.le_refl _)
theorem ap_any (hF : FOk F) (hp : PlanOk F p) (hq : PlanOk F q) : Any 200000 3 (.dict (dx (apX F p q))) := by
  refine NoI.keep (fun _ wNoI => ?_) ?_
  simp only [↓ NoI.wrOf wNoI (by
  clear wNoI
  have g : ∀ e ∈ dx (apX F p q), Any 1000 1 e.1 ∧ Any 1000 1 e.2 := fun e he => by
    unfold dx apX at he
    rw [List.map_map] at he
    obtain ⟨l, hl, rfl⟩ := List.mem_map.mp he
    have hm : l ∈ allL F := (leasesL_perm F).mem_iff.mp (List.mem_filter.mp hl).1
    exact ⟨(any_leaseD hF hm).less (by omega) (by omega), (any_nat (Nat.le_trans (apart_le hF hp hq l) (by decide))).less (by omega) (by omega)⟩
  have hl : (dx (apX F p q)).length ≤ 69 := by
    unfold dx apX
    rw [List.length_map, List.length_map]
    exact Nat.le_trans (List.length_filter_le _ _) (leasesL_len hF)
  exact (any_dict g).less (Nat.le_trans (Nat.mul_le_mul (Nat.le_refl _) hl) (by decide)) (by decide)
  )]
  intro _ hNoI
  simpa using (fun (_ : NoI.Sg) => hNoI) [5]
theorem ap_get {l : Lq} (hl : l ∈ leasesL F) : (lkX (apX F p q) (leaseTK l)).getD (.int 0) = .int (apartB F p q l : Int) := by
  refine NoI.keep (fun _ wNoI => ?_) ?_
  simp only [↓ NoI.wrOf wNoI (by
  clear wNoI
  unfold apX
  by_cases h : 0 < apartB F p q l
  · rw [lkX_map (f := leaseTK) (g := fun l => PyData.int (apartB F p q l : Int)) leaseTK_inj (List.mem_filter.mpr ⟨hl, decide_eq_true h⟩)]
    rfl
  · rw [lkX_none]
    · have : apartB F p q l = 0 := by omega
      rw [this]; rfl
    · intro z
      rw [List.map_map] at z
      obtain ⟨r, hr, e⟩ := List.mem_map.mp z
      have e : r = l := leaseTK_inj r l e
      subst e
      exact h (of_decide_eq_true (List.mem_filter.mp hr).2)
  )]
  intro _ hNoI
  simpa using (fun (_ : NoI.Sg) => hNoI) [5]
theorem ap_sum : (((leasesL F).filter fun l => decide (0 < apartB F p q l)).map fun l => (apartB F p q l : Int)).sum = distB F p q := by
  refine NoI.keep (fun _ wNoI => ?_) ?_
  simp only [↓ NoI.wrOf wNoI (by
  clear wNoI
  unfold distB
  generalize leasesL F = ls
  induction ls with
  | nil => rfl
  | cons l ls ih =>
    by_cases h : 0 < apartB F p q l
    · rw [List.filter_cons_of_pos (by simpa using h), List.map_cons, List.sum_cons, List.map_cons, List.sum_cons, ih]
    · rw [List.filter_cons_of_neg (by simpa using h), List.map_cons, List.sum_cons, ih]
      have : apartB F p q l = 0 := by omega
      rw [this]; simp
  )]
  intro _ hNoI
  simpa using (fun (_ : NoI.Sg) => hNoI) [5]
theorem dist_le (hF : FOk F) (hp : PlanOk F p) (hq : PlanOk F q) : distB F p q ≤ 13800 := by
  refine NoI.keep (fun _ wNoI => ?_) ?_
  simp only [↓ NoI.wrOf wNoI (by
  clear wNoI
  have key : ∀ ls : List Lq, (ls.map fun l => (apartB F p q l : Int)).sum ≤ 200 * (ls.length : Int) := fun ls => by
    induction ls with
    | nil => simp
    | cons l ls ih =>
      have := apart_le hF hp hq l
      rw [List.map_cons, List.sum_cons, List.length_cons]
      omega
  have h1 := key (leasesL F)
  have h2 := leasesL_len hF
  unfold distB
  omega
  )]
  intro _ hNoI
  simpa using (fun (_ : NoI.Sg) => hNoI) [5]
end
section
variable {sl : List SV} {mem : Mem} {Φ : SV → S → Prop} {j : Nat}
theorem use_distB {F : Fleet} {p q : List Int} (hF : FOk F) (hp : PlanOk F p) (hq : PlanOk F q) (k : Φ (.dat (.int (distB F p q))) ⟨sl, mem⟩) : C_distance ([F.d, .tuple (dI p), .tuple (dI q)].map SV.dat) [] (backP ⟨sl, mem⟩ Φ) := ⟨F, p, q, rfl, rfl, hF, hp, hq, fun m' => k⟩
theorem use_apartsO {F : Fleet} {p q : List Int} (hF : FOk F) (hp : PlanOk F p) (hq : PlanOk F q) (k : Φ (.own mem.length) ⟨sl, mem ++ [some (.dict (dx (apX F p q)))]⟩) : C_aparts ([F.d, .tuple (dI p), .tuple (dI q)].map SV.dat) [] (backP ⟨sl, mem⟩ Φ) := by
  refine ⟨F, p, q, rfl, rfl, hF, hp, hq, fun m' i hm => ?_⟩
  show (match m'[i]? with | some (some ds) => _ | _ => False)
  rw [hm]
  exact k
theorem use_middle20 {b : Bag} {T : Nat} (hm : mem[j]? = some (some b.d)) (hw : WB (T + 302) b) (k : ∀ (F : Fleet) (b' : Bag), FOk F → WB T b' → Φ (.dat F.d) ⟨sl, mem.set j (some b'.d)⟩) :
    ∃ bs, mem[j]? = some (some bs) ∧ C__law_middle (.own 0 :: [].map SV.dat) [some bs] (backB ⟨sl, mem⟩ j Φ) :=
  ⟨_, hm, b, T, rfl, rfl, hw, fun m' F b' h1 _ _ hw' hm' => ⟨_, _, rfl, hm', k F b' h1 hw'⟩⟩
end
end LW

/-! an edit, and how far apart plans are -/
namespace LW
open PySem PySem.Spec PyProof.Rows L2 SH
variable [WW] {F : Fleet} {p q r : List Int} {l m : Lq}
theorem apart_first (hp : PlanOk F p) (hr : PlanOk F r) (h : m.2 = 0) : apartB F p r m = 0 := by
  unfold apartB vtx
  rw [h, hopsB_zero hp, hopsB_zero hr]
  exact cnt_same _ _
theorem ed_other (hF : FOk F) (hp : PlanOk F p) (h : EdQ F p l) (hm : m ∈ allL F) (ne : m ≠ l) : apartB F (togQ F p l) r m = apartB F p r m := by
  refine NoI.keep (fun _ wNoI => ?_) ?_
  simp only [↓ NoI.wrOf wNoI (by
  clear wNoI
  obtain ⟨e1, e2, e3, e4⟩ := endOf_spec F l.1 l.2 (h.len hF)
  have hk := (allL_ok hF hm).2
  unfold apartB vtx
  rw [vx_tog hF hp h hk]
  split
  · rename_i c
    have nx : l.1 ≠ m.1 := fun e => by
      have n2 : m.2 ≠ l.2 := fun z => ne (Prod.ext e.symm z)
      have n0 := h.n0
      have := (lease_cases hm).resolve_left (by omega)
      rw [← e] at this
      exact e4 (m.2 - 1) (by omega) (by omega) this
    exact cnt_push nx _ _
  · rfl
  )]
  intro _ hNoI
  simpa using (fun (_ : NoI.Sg) => hNoI) [5]
theorem ed_self (hF : FOk F) (hp : PlanOk F p) (h : EdQ F p l) : apartB F p r l = apartB F (togQ F p l) r l + 1 ∨ apartB F (togQ F p l) r l = apartB F p r l + 1 := by
  refine NoI.keep (fun _ wNoI => ?_) ?_
  simp only [↓ NoI.wrOf wNoI (by
  clear wNoI
  obtain ⟨e1, e2, e3, e4⟩ := endOf_spec F l.1 l.2 (h.len hF)
  have e : vtx F (togQ F p l) l.2 = redS (redS (hopsB F p l.2) ++ [l.1]) := by
    unfold vtx
    rw [vx_tog hF hp h (h.len hF), if_pos ⟨Nat.le_refl _, e1⟩]
  have s1 : cntW (vtx F p l.2) (vtx F (togQ F p l) l.2) l.1 = 1 := by
    rw [e]; exact cnt_step _ _
  have t1 := cnt_tri (vtx F p l.2) (vtx F (togQ F p l) l.2) (vtx F r l.2) l.1
  have t2 := cnt_tri (vtx F (togQ F p l) l.2) (vtx F p l.2) (vtx F r l.2) l.1
  have t3 := cnt_par (vtx F p l.2) (vtx F (togQ F p l) l.2) (vtx F r l.2) l.1
  rw [cnt_comm (vtx F (togQ F p l) l.2) (vtx F p l.2)] at t2
  rw [cnt_comm (vtx F r l.2) (vtx F p l.2)] at t3
  unfold apartB
  omega
  )]
  intro _ hNoI
  simpa using (fun (_ : NoI.Sg) => hNoI) [5]
theorem ed_if (hF : FOk F) (hp : PlanOk F p) (h : EdQ F p l) : (if (apartB F p r l : Int) - (apartB F (togQ F p l) r l : Int) < 0 then -((apartB F p r l : Int) - (apartB F (togQ F p l) r l : Int)) else (apartB F p r l : Int) - (apartB F (togQ F p l) r l : Int)) = 1 := by
  rcases ed_self (r := r) hF hp h with z | z <;> split <;> omega
theorem ed_ap (hF : FOk F) (hp : PlanOk F p) (h : EdQ F p l) : apX F p (togQ F p l) = [(leaseTK l, .int 1)] := by
  refine NoI.keep (fun _ wNoI => ?_) ?_
  simp only [↓ NoI.wrOf wNoI (by
  clear wNoI
  have hm : l ∈ leasesL F := (leasesL_perm F).mem_iff.mpr h.al
  obtain ⟨e1, e2, e3, e4⟩ := endOf_spec F l.1 l.2 (h.len hF)
  have s1 : apartB F p (togQ F p l) l = 1 := by
    unfold apartB vtx
    rw [vx_tog hF hp h (h.len hF), if_pos ⟨Nat.le_refl _, e1⟩]
    exact cnt_step _ _
  have s0 : ∀ r ∈ leasesL F, decide (0 < apartB F p (togQ F p l) r) = decide (r = l) := fun r hr => by
    by_cases c : r = l
    · subst c
      rw [s1]; simp
    · have : apartB F p (togQ F p l) r = 0 := by
        have := ed_other (r := p) hF hp h ((leasesL_perm F).mem_iff.mp hr) c
        unfold apartB at this ⊢
        rw [cnt_comm, this, cnt_same]
      rw [this]; simp [c]
  unfold apX
  rw [List.filter_congr s0, filter_one (leasesL_nd hF) hm, List.map_cons, List.map_nil, s1]
  rfl
  )]
  intro _ hNoI
  simpa using (fun (_ : NoI.Sg) => hNoI) [5]
/-- all keys that there may be -/
def keysD (F : Fleet) : List TK := (List.range F.row.length).map fun k => leaseTK (F.row.getD k "", k + 1)
theorem keysD_len (hF : FOk F) : (keysD F).length < 64 := by
  have := hF.rl
  unfold keysD
  rw [List.length_map, List.length_range]
  omega
def apL (F : Fleet) (p r : List Int) : List Lq := (leasesL F).filter fun l => decide (0 < apartB F p r l)
theorem apX_keys (F : Fleet) (p r : List Int) : (dx (apX F p r)).map (·.1) = (apL F p r).map leaseD := by
  unfold dx apX apL
  rw [List.map_map, List.map_map]
  rfl
theorem apX_vals (F : Fleet) (p r : List Int) : (dx (apX F p r)).map (·.2) = ((apL F p r).map fun l => (apartB F p r l : Int)).map PyData.int := by
  unfold dx apX apL
  rw [List.map_map, List.map_map, List.map_map]
  rfl
theorem apL_mem (hp : PlanOk F p) (hr : PlanOk F r) (h : m ∈ apL F p r) : m ∈ leasesL F ∧ leaseTK m ∈ keysD F := by
  refine NoI.keep (fun _ wNoI => ?_) ?_
  simp only [↓ NoI.wrOf wNoI (by
  clear wNoI
  obtain ⟨h1, h2⟩ := List.mem_filter.mp h
  have h2 := of_decide_eq_true h2
  have n0 : m.2 ≠ 0 := fun z => by rw [apart_first hp hr z] at h2; omega
  have hx := (lease_cases ((leasesL_perm F).mem_iff.mp h1)).resolve_left n0
  have hl : m.2 - 1 < F.row.length := (List.getElem?_eq_some_iff.mp hx).1
  refine ⟨h1, List.mem_map.mpr ⟨m.2 - 1, List.mem_range.mpr hl, ?_⟩⟩
  rw [List.getD_eq_getElem?_getD, hx]
  show leaseTK (m.1, m.2 - 1 + 1) = leaseTK m
  rw [show m.2 - 1 + 1 = m.2 by omega]
  )]
  intro _ hNoI
  simpa using (fun (_ : NoI.Sg) => hNoI) [5]
end LW

namespace LW
open PySem PySem.Spec PyProof.Rows L2 SH
variable [WW]
def t_law_k25 (K : PySem.W.Frag) : TS :=
  (tSeq (tAsg (tCall (spP K C__law_bag) [] E0 (tCons (tVar 0) tNil)) (gName 1))
  (tSeq (tAsg (tOp (rEqU K) (tCall (spP K C__law_take) [] E0 (tCons (tVar 1) (tCons (tC (.int 4)) tNil))) (tC (.int 0))) (gName 2))
  (tSeq (tAsg (tIf (tTru K (tVar 2)) (tCall (spP K C__law_wide) [] E0 (tCons (tVar 1) tNil)) (tCall (spP K C__law_middle) [] E0 (tCons (tVar 1) tNil))) (gName 3))
  (tSeq (tAsg (tTupF (tCons (tCall (spP K C__law_pins) [] E0 (tCons (tVar 1) (tCons (tVar 3) tNil))) (tCons (tCall (spP K C__law_plan) [] E0 (tCons (tVar 1) (tCons (tVar 3) tNil))) tNil))) (gTup K 2 (gCons (gName 4) (gCons (gName 5) gNil))))
  (tSeq (tAsg (tLst (tCons (tCall (spP K C__law_plan) [] E0 (tCons (tVar 1) (tCons (tVar 3) tNil))) (tCons (tCall (spP K C__law_some) [] E0 (tCons (tVar 1) (tCons (tLst (tCons (tVar 5) (tCons (tTupF tNil) (tCons (tCall (spP K C__law_plan) [] E0 (tCons (tVar 1) (tCons (tVar 3) tNil))) tNil)))) tNil))) tNil))) (gName 6))
  (tSeq (tAsg (tLc (iSeq K (tVar 6)) (gName 15) tYes (tCall (spP K C_aparts) [] E0 (tCons (tVar 3) (tCons (tVar 5) (tCons (tVar 15) tNil)))) [15]) (gName 7))
  (tSeq (tFor (iRng1 (tCons (tIf (tTru K (tVar 2)) (tCall (spP K C__law_some) [] E0 (tCons (tVar 1) (tCons (tLst (tCons (tC (.int 3)) (tCons (tC (.int 5)) tNil))) tNil))) (tCall (spP K C__law_some) [] E0 (tCons (tVar 1) (tCons (tLst (tCons (tC (.int 6)) (tCons (tC (.int 10)) (tCons (tC (.int 4)) tNil)))) tNil)))) tNil)) (gName 8)
    (tSeq (tAsg (tCall (spP K C__law_near) [] E0 (tCons (tVar 3) (tCons (tVar 5) (tCons (tVar 4) tNil)))) (gName 9))
  (tSeq (tIfS (tTest (tOp (rEqU K) (tVar 9) (tLst tNil)))
    (tRet (tC (.bl true)))
    tNext)
  (tSeq (tAsg (tCall (spP K C__law_some) [] E0 (tCons (tVar 1) (tCons (tVar 9) tNil))) (gTup K 2 (gCons (gName 10) (gCons (gName 11) gNil))))
  (tSeq (tAsg (tLc (iSeq K (tVar 6)) (gName 15) tYes (tCall (spP K C_aparts) [] E0 (tCons (tVar 3) (tCons (tVar 11) (tCons (tVar 15) tNil)))) [15]) (gName 12))
  (tSeq (tFor (iZip3 K (tCons (tVar 7) (tCons (tVar 12) (tCons (tVar 6) tNil)))) (gTup K 3 (gCons (gName 13) (gCons (gName 14) (gCons (gName 15) gNil))))
    (tSeq (tFor (iSeq K (tSortSetK K (tOp (rAddU K) (tListD (tVar 13)) (tListD (tVar 14))))) (gName 16)
    (tIfS (tAnd (tTest (tOp (rNeU K) (tVar 16) (tVar 10))) (tTest (tOp (rNeU K) (tDGX K (tVar 13) (tVar 16) (tC (.int 0))) (tDGX K (tVar 14) (tVar 16) (tC (.int 0))))))
    (tRet (tC (.bl false)))
    tNext))
  (tIfS (tOr (tTest (tOp (rNeU K) (tCB (rAbs) (tCons (tOp (rI0 fun i j => .int (i - j)) (tDGX K (tVar 13) (tVar 10) (tC (.int 0))) (tDGX K (tVar 14) (tVar 10) (tC (.int 0)))) tNil)) (tC (.int 1)))) (tTest (tOp (rNeU K) (tCall (spP K C_distance) [] E0 (tCons (tVar 3) (tCons (tVar 11) (tCons (tVar 15) tNil)))) (tSumV (tVar 14)))))
    (tRet (tC (.bl false)))
    tNext)))
  (tSeq (tIfS (tNot (tTru K (tCall (spP K C__law_alike) [] E0 (tCons (tCall (spP K C_aparts) [] E0 (tCons (tVar 3) (tCons (tVar 5) (tCons (tVar 11) tNil)))) (tCons (tDisp1 K (tVar 10) (tC (.int 1))) tNil)))))
    (tRet (tC (.bl false)))
    tNext)
  (tAsg (tTupF (tCons (tVar 11) (tCons (tVar 12) tNil))) (gTup K 2 (gCons (gName 5) (gCons (gName 7) gNil)))))))))))
  (tRet (tC (.bl true))))))))))
end LW

namespace LW
open PySem PySem.Spec PyProof.Rows L2 SH
variable [WW]
section
variable {K : PySem.W.Frag} {Zc : Addr → Prop} {s : S} {x y : SV} {Φ : SV → S → Prop} {n : Nat}
/-- an expression, then the rest from what is left to know -/
theorem ev_cutD {te : TE} (P : D → S → Prop) (h : EvS K Zc te s (asD fun d s1 => To s.mem.length (P d) s1)) (k : ∀ d s2, P d s2 → s.mem.length ≤ s2.mem.length → Φ (.dat d) s2) : EvS K Zc te s Φ := by
  refine NoI.keep (fun _ wNoI => ?_) ?_
  simp only [↓ NoI.wrOf wNoI (by
  clear wNoI
  intro ad H σ Q I p
  refine ev_asD (Φ := fun sv s1 => ∃ d, sv = .dat d ∧ To s.mem.length (P d) s1) h (fun d s' e => ⟨d, rfl, e⟩) ad H σ _ I fun v ad1 H1 sv s1 h1 I1 F1 r1 => ?_
  obtain ⟨d, rfl, s2, w, hl, q⟩ := h1
  exact p v ad1 H1 (.dat d) s2 (k d s2 q hl) (I1.wk w) (F1.trans (w.frm hl) (Nat.le_refl _)) (dp_mono (w.frm hl).same _ _ r1)
  )]
  intro _ hNoI
  simpa using (fun (_ : NoI.Sg) => hNoI) [5]
theorem os_neLl {F : Fleet} (hF : FOk F) {l q : Lq} (hl : l ∈ allL F) (hq : q ∈ allL F) (h1 : rd s.mem x = some (leaseD l)) (h2 : rd s.mem y = some (leaseD q)) (k : Φ (.dat (.bool (!decide (l = q)))) s) : OpS K Zc (rNeU K) x y s Φ := by
  refine NoI.keep (fun _ wNoI => ?_) ?_
  simp only [↓ NoI.wrOf wNoI (by
  clear wNoI
  refine os_ne h1 h2 (lease_shaped hF (allL_ok hF hl).1 l.2) (lease_shaped hF (allL_ok hF hq).1 q.2) ?_
  have e : PyData.eqv (leaseD l) (leaseD q) = decide (l = q) := by
    rw [show leaseD q = .tuple [.str q.1, .int (q.2 : Int)] from rfl, eqv_lease]
    by_cases c : l = q
    · subst c; simp
    · rw [decide_eq_false c]
      by_cases c1 : l.1 = q.1
      · have : (l.2 : Int) ≠ (q.2 : Int) := fun z => c (Prod.ext c1 (by omega))
        rw [decide_eq_false this, Bool.and_false]
      · rw [decide_eq_false c1, Bool.false_and]
  rw [e]
  exact k
  )]
  intro _ hNoI
  simpa using (fun (_ : NoI.Sg) => hNoI) [5]
end
/-- the plans beside, and how far apart they are -/
def besD (rs : List (List Int)) : List D := rs.map fun r => .tuple (dI r)
def befD (F : Fleet) (p : List Int) (rs : List (List Int)) : List D := rs.map fun r => .dict (dx (apX F p r))
theorem zip_at {F : Fleet} {p p' : List Int} {rs : List (List Int)} {i : Nat} {d : D} (h : (zip3D (befD F p rs) (befD F p' rs) (besD rs))[i]? = some d) :
    ∃ r, r ∈ rs ∧ d = .tuple [.dict (dx (apX F p r)), .dict (dx (apX F p' r)), .tuple (dI r)] := by
  refine NoI.keep (fun _ wNoI => ?_) ?_
  simp only [↓ NoI.wrOf wNoI (by
  clear wNoI
  have hi : i < rs.length := by
    have := (List.getElem?_eq_some_iff.mp h).1
    rw [zip3D_len] at this
    unfold befD besD at this
    simp at this
    omega
  have hr : rs[i]? = some rs[i] := List.getElem?_eq_getElem hi
  rw [zip3D_get (a := .dict (dx (apX F p rs[i]))) (b := .dict (dx (apX F p' rs[i]))) (c := .tuple (dI rs[i])) (by rw [befD, List.getElem?_map, hr]; rfl) (by rw [befD, List.getElem?_map, hr]; rfl) (by rw [besD, List.getElem?_map, hr]; rfl)] at h
  exact ⟨rs[i], List.getElem_mem hi, (Option.some.inj h).symm⟩
  )]
  intro _ hNoI
  simpa using (fun (_ : NoI.Sg) => hNoI) [5]
theorem bef_dict {F : Fleet} {p : List Int} {rs : List (List Int)} {x : D} (h : x ∈ befD F p rs) : strsD [x] = false := by
  obtain ⟨r, _, rfl⟩ := List.mem_map.mp h
  rfl
theorem ap_len {F : Fleet} (hF : FOk F) (p r : List Int) : ((dx (apX F p r)).map (·.1)).length ≤ 69 := by
  rw [apX_keys, List.length_map]
  exact Nat.le_trans (List.length_filter_le _ _) (leasesL_len hF)
theorem key_dp {ls : List Lq} {k : TK} (h : k ∈ ls.map leaseTK) : (NestedKey.tup k).depth ≤ 8 ∧ (kx k).depth ≤ 50 := by
  obtain ⟨l, _, rfl⟩ := List.mem_map.mp h
  exact ⟨by show 1 ≤ 8; decide, by rw [kx_lease]; show 1 ≤ 50; decide⟩
theorem both_in {F : Fleet} {p p' r : List Int} (hp : PlanOk F p) (hp' : PlanOk F p') (hr : PlanOk F r) {l : Lq} (h : l ∈ apL F p r ++ apL F p' r) : l ∈ leasesL F ∧ leaseTK l ∈ keysD F := by
  rcases List.mem_append.mp h with h | h
  · exact apL_mem hp hr h
  · exact apL_mem hp' hr h
theorem both_key {F : Fleet} {p p' r : List Int} (hp : PlanOk F p) (hp' : PlanOk F p') (hr : PlanOk F r) {k : TK} (h : k ∈ (apL F p r ++ apL F p' r).map leaseTK) : k ∈ keysD F := by
  obtain ⟨l, hl, rfl⟩ := List.mem_map.mp h
  exact (both_in hp hp' hr hl).2
/-- the keys of both -/
theorem two_keys (F : Fleet) (p p' r : List Int) : (dx (apX F p r)).map (·.1) ++ (dx (apX F p' r)).map (·.1) = ((apL F p r ++ apL F p' r).map leaseTK).map kx := by
  rw [apX_keys, apX_keys, ← List.map_append, List.map_map]
  rfl
theorem key_alike (l : List Lq) : PySem.W.AllAlike ((l.map leaseTK).map kx) := by
  rw [List.map_map]; exact leases_alike l
theorem key_sortable (l : List Lq) : PySem.W.Sortable ((l.map leaseTK).map kx) := by
  rw [List.map_map]; exact leases_sortable l
theorem key_at {ms : List TK} {ls : List Lq} (hm : ∀ k, k ∈ ms ↔ k ∈ ls.map leaseTK) {i : Nat} {d : D} (h : (sortD (ms.map kx))[i]? = some d) : ∃ l ∈ ls, d = leaseD l := by
  refine NoI.keep (fun _ wNoI => ?_) ?_
  simp only [↓ NoI.wrOf wNoI (by
  clear wNoI
  have h1 := List.mem_of_getElem? h
  have h2 : d ∈ ms.map kx := (List.mergeSort_perm _ _).mem_iff.mp h1
  obtain ⟨k, hk, rfl⟩ := List.mem_map.mp h2
  obtain ⟨l, hl, rfl⟩ := List.mem_map.mp ((hm k).mp hk)
  exact ⟨l, hl, rfl⟩
  )]
  intro _ hNoI
  simpa using (fun (_ : NoI.Sg) => hNoI) [5]
end LW


namespace LW
open PySem PySem.Spec PyProof.Rows L2 SH
variable [WW]
set_option maxHeartbeats 0 in
theorem wp_law_k25 {K : PySem.W.Frag} : ∀ Zc svs m Ψ, C_law svs m Ψ → ExS K Zc m.length (t_law_k25 K) ⟨svs ++ List.replicate (17 - svs.length) .un, m⟩ (retE Ψ) := by
  refine NoI.keep (fun _ wNoI => ?_) ?_
  simp only [↓ NoI.wrOf wNoI (by
  clear wNoI
  rintro Zc _ _ Ψ ⟨ns, rfl, rfl, hl, k⟩
  unfold t_law_k25
  show ExS _ _ _ _ ⟨[.ro ns, .un, .un, .un, .un, .un, .un, .un, .un, .un, .un, .un, .un, .un, .un, .un, .un], []⟩ _
  refine ex_cut (fun s => ∃ b : Bag, WB 1000000 b ∧ s = ⟨[.ro ns, .own 0, .un, .un, .un, .un, .un, .un, .un, .un, .un, .un, .un, .un, .un, .un, .un], [some b.d]⟩) ?_ ?_
  · refine ex_asg (ev_call0 (ar_cons ?_))
    walk_at "go"
    refine ⟨rfl, ns, rfl, rfl, hl, fun m' b i hw hm => ?_⟩
    show (match m'[i]? with | some (some ds) => _ | _ => False)
    rw [hm]
    walk_at "go"
    exact To.of _ ⟨b, hw, rfl⟩ (by walk_at "wk") (by walk_at "wk") (by simp)
  rintro _ ⟨b, hw, rfl⟩ _
  refine ex_cut (fun s => ∃ (b' : Bag) (w : Bool), WB 999900 b' ∧ s = ⟨[.ro ns, .own 0, .dat (.bool w), .un, .un, .un, .un, .un, .un, .un, .un, .un, .un, .un, .un, .un, .un], [some b'.d]⟩) ?_ ?_
  · walk_at "go"
    refine use_take (T := 999900) rfl (hw.less (by omega)) (by decide) (by decide) fun v b2 _ _ hw2 => ?_
    walk_at "go"
    exact To.of _ ⟨b2, _, hw2, rfl⟩ (by walk_at "wk") (by walk_at "wk") (by simp)
  rintro _ ⟨b1, w, hw1, rfl⟩ _
  clear hw
  refine ex_cut (fun s => ∃ (b' : Bag) (F : Fleet), FOk F ∧ WB 999000 b' ∧ s = ⟨[.ro ns, .own 0, .dat (.bool w), .dat F.d, .un, .un, .un, .un, .un, .un, .un, .un, .un, .un, .un, .un, .un], [some b'.d]⟩) ?_ ?_
  · walk_at "go"
    refine ⟨fun _ => ?_, fun _ => ?_⟩
    · walk_at "go"
      refine use_wide (T := 999000) rfl (hw1.less (by omega)) fun F b3 hF hw3 => ?_
      walk_at "go"
      exact To.of _ ⟨b3, F, hF, hw3, rfl⟩ (by walk_at "wk") (by walk_at "wk") (by simp)
    · walk_at "go"
      refine use_middle20 (T := 999000) rfl (hw1.less (by omega)) fun F b3 hF hw3 => ?_
      walk_at "go"
      exact To.of _ ⟨b3, F, hF, hw3, rfl⟩ (by walk_at "wk") (by walk_at "wk") (by simp)
  rintro _ ⟨b2, F, hF, hw2, rfl⟩ _
  clear hw1
  refine ex_cut (fun s => ∃ (b' : Bag) (ps : List Lq) (p : List Int), PinsOk F ps ∧ PlanOk F p ∧ WB 998800 b' ∧ s = ⟨[.ro ns, .own 0, .dat (.bool w), .dat F.d, .dat (pinsD ps), .dat (.tuple (dI p)), .un, .un, .un, .un, .un, .un, .un, .un, .un, .un, .un], [some b'.d]⟩) ?_ ?_
  · walk_at "go"
    refine use_pins (T := 998900) rfl (hw2.less (by omega)) hF fun ps b3 hps hw3 => ?_
    walk_at "go"
    refine use_plan (T := 998800) rfl (hw3.less (by omega)) hF fun p b4 hp hw4 => ?_
    walk_at "go"
    exact To.of _ ⟨b4, ps, p, hps, hp, hw4, rfl⟩ (by walk_at "wk") (by walk_at "wk") (by simp)
  rintro _ ⟨b3, ps, p, hps, hp, hw3, rfl⟩ _
  clear hw2
  refine ex_cut (fun s => ∃ (b' : Bag) (rs : List (List Int)), (∀ r ∈ rs, PlanOk F r) ∧ rs.length = 2 ∧ WB 998000 b' ∧ s = ⟨[.ro ns, .own 0, .dat (.bool w), .dat F.d, .dat (pinsD ps), .dat (.tuple (dI p)), .own 2, .un, .un, .un, .un, .un, .un, .un, .un, .un, .un], [some b'.d, none, some (.list (besD rs))]⟩) ?_ ?_
  · walk_at "go"
    refine use_plan (T := 998700) rfl (hw3.less (by omega)) hF fun p2 b4 hp2 hw4 => ?_
    walk_at "go"
    refine use_plan (T := 998600) rfl (hw4.less (by omega)) hF fun p3 b5 hp3 hw5 => ?_
    walk_at "go"
    refine use_some (T := 998000) rfl (hw5.less (by omega)) rfl (by nofun) (by simp) fun d b6 hd hw6 => ?_
    obtain ⟨r, hr, rfl⟩ : ∃ r, PlanOk F r ∧ d = .tuple (dI r) := by
      simp only [List.mem_cons, List.not_mem_nil, or_false] at hd
      rcases hd with rfl | rfl | rfl
      · exact ⟨p, hp, rfl⟩
      · exact ⟨[], ⟨by nofun, List.Pairwise.nil⟩, rfl⟩
      · exact ⟨p3, hp3, rfl⟩
    walk_at "go"
    refine To.of _ ⟨b6, [p2, r], fun x hx => ?_, rfl, hw6, rfl⟩ (by walk_at "wk") (by walk_at "wk") (by simp)
    simp only [List.mem_cons, List.not_mem_nil, or_false] at hx
    rcases hx with rfl | rfl
    · exact hp2
    · exact hr
  rintro _ ⟨b4, rs, hrs, hrl, hw4, rfl⟩ _
  clear hw3
  refine ex_fz (i := 2) rfl ?_
  walk_at "nrm"
  refine ex_wk (s1 := ⟨[.ro ns, .own 0, .dat (.bool w), .dat F.d, .dat (pinsD ps), .dat (.tuple (dI p)), .dat (.list (besD rs)), .un, .un, .un, .un, .un, .un, .un, .un, .un, .un], [some b4.d]⟩) (Wk.of (by walk_at "wk") (by walk_at "wk")) (by simp) ?_
  have hbl : ∀ p : List Int, (befD F p rs).length = 2 := fun p => by rw [befD, List.length_map, hrl]
  refine ex_cut (fun s => s = ⟨[.ro ns, .own 0, .dat (.bool w), .dat F.d, .dat (pinsD ps), .dat (.tuple (dI p)), .dat (.list (besD rs)), .own 1, .un, .un, .un, .un, .un, .un, .un, .un, .un], [some b4.d, some (.list (befD F p rs))]⟩) ?_ ?_
  · walk_at "go"
    refine ev_lcP (it_seq ?_)
    walk_at "go"
    refine ⟨_, rfl, befD F p rs, by rw [hbl, besD, List.length_map, hrl], by rw [hbl]; decide, ?_, ?_⟩
    · rintro i d e m' hd he rfl
      rw [besD, List.getElem?_map] at hd
      obtain ⟨r, hr, rfl⟩ := Option.map_eq_some_iff.mp hd
      rw [befD, List.getElem?_map, hr] at he
      cases he
      walk_at "go"
      refine use_apartsO hF hp (hrs r (List.mem_of_getElem? hr)) ?_
      walk_at "go"
      exact ⟨rfl, Wk.of (by walk_at "wk") (by walk_at "wk")⟩
    · walk_at "go"
      exact To.of _ rfl (by walk_at "wk") (by walk_at "wk") (by simp)
  rintro _ rfl _
  refine ex_fz (i := 1) rfl ?_
  walk_at "nrm"
  refine ex_wk (s1 := ⟨[.ro ns, .own 0, .dat (.bool w), .dat F.d, .dat (pinsD ps), .dat (.tuple (dI p)), .dat (.list (besD rs)), .dat (.list (befD F p rs)), .un, .un, .un, .un, .un, .un, .un, .un, .un], [some b4.d]⟩) (Wk.of (by walk_at "wk") (by walk_at "wk")) (by simp) ?_
  refine ex_cut (fun s => ∃ b' : Bag, s = ⟨[.ro ns, .un, .un, .un, .un, .un, .un, .un, .un, .un, .un, .un, .un, .un, .un, .un, .un], [some b'.d]⟩) ?_ ?_
  · refine ex_for (it_range1 (ar_cons ?_))
    refine ev_cutD (fun d s => ∃ (v : Nat) (b' : Bag), v ≤ 10 ∧ WB 997000 b' ∧ d = .int (v : Int) ∧ s = ⟨[.ro ns, .own 0, .un, .dat F.d, .dat (pinsD ps), .dat (.tuple (dI p)), .dat (.list (besD rs)), .dat (.list (befD F p rs)), .un, .un, .un, .un, .un, .un, .un, .un, .un], [some b'.d]⟩) ?_ ?_
    · walk_at "go"
      refine ⟨fun _ => ?_, fun _ => ?_⟩
      · walk_at "go"
        refine use_some (T := 997000) rfl (hw4.less (by omega)) rfl (by nofun) (by simp) fun d b6 hd hw6 => ?_
        obtain ⟨v, hv, rfl⟩ : ∃ v : Nat, v ≤ 10 ∧ d = .int (v : Int) := by
          simp at hd
          rcases hd with rfl | rfl
          · exact ⟨3, by decide, rfl⟩
          · exact ⟨5, by decide, rfl⟩
        walk_at "go"
        exact To.of _ ⟨v, b6, hv, hw6, rfl, rfl⟩ (by walk_at "wk") (by walk_at "wk") (by simp)
      · walk_at "go"
        refine use_some (T := 997000) rfl (hw4.less (by omega)) rfl (by nofun) (by simp) fun d b6 hd hw6 => ?_
        obtain ⟨v, hv, rfl⟩ : ∃ v : Nat, v ≤ 10 ∧ d = .int (v : Int) := by
          simp at hd
          rcases hd with rfl | rfl | rfl
          · exact ⟨6, by decide, rfl⟩
          · exact ⟨10, by decide, rfl⟩
          · exact ⟨4, by decide, rfl⟩
        walk_at "go"
        exact To.of _ ⟨v, b6, hv, hw6, rfl, rfl⟩ (by walk_at "wk") (by walk_at "wk") (by simp)
    rintro _ _ ⟨v, b5, hv, hw5, rfl, rfl⟩ _
    walk_at "go"
    refine ⟨_, rfl, by omega, by omega, fun c s => ∃ (b' : Bag) (p' : List Int), c ≤ 10 ∧ PlanOk F p' ∧ WB (997000 - c) b' ∧ s = ⟨[.ro ns, .own 0, .un, .dat F.d, .dat (pinsD ps), .dat (.tuple (dI p')), .dat (.list (besD rs)), .dat (.list (befD F p' rs)), .un, .un, .un, .un, .un, .un, .un, .un, .un], [some b'.d]⟩,
      To.of _ ⟨b5, p, by omega, hp, hw5, rfl⟩ (by walk_at "wk") (by walk_at "wk") (by simp), ?_, ?_⟩
    rotate_left
    · rintro _ ⟨b6, p6, _, _, _, rfl⟩ _
      exact To.of _ ⟨b6, rfl⟩ (by walk_at "wk") (by walk_at "wk") (by simp)
    rintro c d _ hd ⟨b6, p6, hc, hp6, hw6, rfl⟩ _
    obtain ⟨hc', rfl⟩ := rangeD_at hd
    have hc' : c < v := by omega
    have hel : (nearL F p6 ps).length ≤ 69 := by rw [nearL, List.length_map]; exact editQ_len hF p6 ps
    refine g_name ?_
    walk_at "nrm"
    refine ex_cut (fun s => s = ⟨[.ro ns, .own 0, .un, .dat F.d, .dat (pinsD ps), .dat (.tuple (dI p6)), .dat (.list (besD rs)), .dat (.list (befD F p6 rs)), .un, .own 1, .un, .un, .un, .un, .un, .un, .un], [some b6.d, some (.list (nearL F p6 ps))]⟩) ?_ ?_
    · walk_at "go"
      refine ⟨F, p6, ps, rfl, rfl, hF, hp6, hps, fun m' l hm => ?_⟩
      show (match m'[l]? with | some (some ds) => _ | _ => False)
      rw [hm]
      walk_at "go"
      exact To.of _ rfl (by walk_at "wk") (by walk_at "wk") (by simp)
    rintro _ rfl _
    refine ex_cut (fun s => nearL F p6 ps ≠ [] ∧ s = ⟨[.ro ns, .own 0, .un, .dat F.d, .dat (pinsD ps), .dat (.tuple (dI p6)), .dat (.list (besD rs)), .dat (.list (befD F p6 rs)), .un, .own 1, .un, .un, .un, .un, .un, .un, .un], [some b6.d, some (.list (nearL F p6 ps))]⟩) ?_ ?_
    · walk_at "go"
      refine os_eq (d := .list (nearL F p6 ps)) (e := .list []) rfl rfl (near_shaped hF) (by decide +kernel) ?_
      rw [eqv_nilL]
      walk_at "go"
      refine ⟨fun h => ?_, fun h => ?_⟩
      · walk_at "go"
        exact k _
      · have hne : nearL F p6 ps ≠ [] := fun z => by rw [z] at h; cases h
        walk_at "go"
        exact To.of _ ⟨hne, rfl⟩ (by walk_at "wk") (by walk_at "wk") (by simp)
    rintro _ ⟨hne, rfl⟩ _
    refine ex_cut (fun s => ∃ (b' : Bag) (q : Lq), EdQ F p6 q ∧ WB (997000 - (c + 1)) b' ∧ s = ⟨[.ro ns, .own 0, .un, .dat F.d, .dat (pinsD ps), .dat (.tuple (dI p6)), .dat (.list (besD rs)), .dat (.list (befD F p6 rs)), .un, .un, .dat (leaseD q), .dat (.tuple (dI (togQ F p6 q))), .un, .un, .un, .un, .un], [some b'.d]⟩) ?_ ?_
    · walk_at "go"
      refine use_some (T := 997000 - (c + 1)) rfl (hw6.less (by omega)) (ds := nearL F p6 ps) rfl hne (by omega) fun d b7 hd hw7 => ?_
      obtain ⟨q, hq, rfl⟩ := List.mem_map.mp hd
      obtain ⟨ed, hn⟩ := can_ed (editQ_in p6 ps q hq) (List.mem_filter.mp hq).2
      walk_at "go"
      exact To.of _ ⟨b7, q, ed, hw7, rfl⟩ (by walk_at "wk") (by walk_at "wk") (by simp)
    rintro _ ⟨b7, q, ed, hw7, rfl⟩ _
    clear hw6
    have hp7 : PlanOk F (togQ F p6 q) := tog_ok
    have hql : q ∈ leasesL F := (leasesL_perm F).mem_iff.mpr ed.al
    refine ex_cut (fun s => s = ⟨[.ro ns, .own 0, .un, .dat F.d, .dat (pinsD ps), .dat (.tuple (dI p6)), .dat (.list (besD rs)), .dat (.list (befD F p6 rs)), .un, .un, .dat (leaseD q), .dat (.tuple (dI (togQ F p6 q))), .own 1, .un, .un, .un, .un], [some b7.d, some (.list (befD F (togQ F p6 q) rs))]⟩) ?_ ?_
    · walk_at "go"
      refine ev_lcP (it_seq ?_)
      walk_at "go"
      refine ⟨_, rfl, befD F (togQ F p6 q) rs, by rw [hbl, besD, List.length_map, hrl], by rw [hbl]; decide, ?_, ?_⟩
      · rintro i d e m' hd he rfl
        rw [besD, List.getElem?_map] at hd
        obtain ⟨r, hr, rfl⟩ := Option.map_eq_some_iff.mp hd
        rw [befD, List.getElem?_map, hr] at he
        cases he
        walk_at "go"
        refine use_apartsO hF hp7 (hrs r (List.mem_of_getElem? hr)) ?_
        walk_at "go"
        exact ⟨rfl, Wk.of (by walk_at "wk") (by walk_at "wk")⟩
      · walk_at "go"
        exact To.of _ rfl (by walk_at "wk") (by walk_at "wk") (by simp)
    rintro _ rfl _
    refine ex_fz (i := 1) rfl ?_
    walk_at "nrm"
    refine ex_wk (s1 := ⟨[.ro ns, .own 0, .un, .dat F.d, .dat (pinsD ps), .dat (.tuple (dI p6)), .dat (.list (besD rs)), .dat (.list (befD F p6 rs)), .un, .un, .dat (leaseD q), .dat (.tuple (dI (togQ F p6 q))), .dat (.list (befD F (togQ F p6 q) rs)), .un, .un, .un, .un], [some b7.d]⟩) (Wk.of (by walk_at "wk") (by walk_at "wk")) (by simp) ?_
    refine ex_cut (fun s => s = ⟨[.ro ns, .own 0, .un, .dat F.d, .dat (pinsD ps), .dat (.tuple (dI p6)), .dat (.list (besD rs)), .dat (.list (befD F p6 rs)), .un, .un, .dat (leaseD q), .dat (.tuple (dI (togQ F p6 q))), .dat (.list (befD F (togQ F p6 q) rs)), .un, .un, .un, .un], [some b7.d]⟩) ?_ ?_
    · refine ex_for (it_zip3 ?_)
      walk_at "go"
      refine ⟨befD F p6 rs, befD F (togQ F p6 q) rs, besD rs, rfl, fun x hx => bef_dict hx, fun i s => s = ⟨[.ro ns, .own 0, .un, .dat F.d, .dat (pinsD ps), .dat (.tuple (dI p6)), .dat (.list (besD rs)), .dat (.list (befD F p6 rs)), .un, .un, .dat (leaseD q), .dat (.tuple (dI (togQ F p6 q))), .dat (.list (befD F (togQ F p6 q) rs)), .un, .un, .un, .un], [some b7.d]⟩, To.of _ rfl (by walk_at "wk") (by walk_at "wk") (by simp), ?_, ?_⟩
      · rintro i d _ hd rfl _
        obtain ⟨r, hr, rfl⟩ := zip_at hd
        have hpr := hrs r hr
        have hd0 := ap_any hF hp6 hpr
        have hdi := dist_le hF hp7 hpr
        have hdn := dist_nn F (togQ F p6 q) r
        have ha6 := apart_le hF hp6 hpr q
        have ha7 := apart_le hF hp7 hpr q
        clear hd
        refine g_tup rfl rfl rfl (g_cons (g_name (g_cons (g_name (g_cons (g_name (g_nil ?_)))))))
        walk_at "nrm"
        refine ex_cut (fun s => s = ⟨[.ro ns, .own 0, .un, .dat F.d, .dat (pinsD ps), .dat (.tuple (dI p6)), .dat (.list (besD rs)), .dat (.list (befD F p6 rs)), .un, .un, .dat (leaseD q), .dat (.tuple (dI (togQ F p6 q))), .dat (.list (befD F (togQ F p6 q) rs)), .dat (.dict (dx (apX F p6 r))), .dat (.dict (dx (apX F (togQ F p6 q) r))), .dat (.tuple (dI r)), .un], [some b7.d]⟩) ?_ ?_
        · refine ex_for (it_seq (ev_sortSetK ?_))
          have hl1 := ap_len hF p6 r
          have hl2 := ap_len hF (togQ F p6 q) r
          walk_at "go"
          refine ev_listD ?_
          walk_at "go"
          refine ⟨_, rfl, ?_⟩
          walk_at "go"
          refine ev_listD ?_
          walk_at "go"
          refine ⟨_, rfl, ?_⟩
          walk_at "go"
          · refine ⟨(apL F p6 r ++ apL F (togQ F p6 q) r).map leaseTK, keysD F, congrArg some (two_keys F p6 (togQ F p6 q) r), fun k hk => (key_dp hk).1, keysD_len hF, fun k hk => both_key hp6 hp7 hpr hk, key_alike _, key_sortable _, fun k hk => (key_dp hk).2, fun ms hnd hms => ?_⟩
            walk_at "go"
            refine ⟨sortD (ms.map kx), rfl, fun i s => s = ⟨[.ro ns, .own 0, .un, .dat F.d, .dat (pinsD ps), .dat (.tuple (dI p6)), .dat (.list (besD rs)), .dat (.list (befD F p6 rs)), .un, .un, .dat (leaseD q), .dat (.tuple (dI (togQ F p6 q))), .dat (.list (befD F (togQ F p6 q) rs)), .dat (.dict (dx (apX F p6 r))), .dat (.dict (dx (apX F (togQ F p6 q) r))), .dat (.tuple (dI r)), .un], [some b7.d]⟩, To.of _ rfl (by walk_at "wk") (by walk_at "wk") (by simp), ?_, ?_⟩
            · rintro i d _ hd rfl _
              obtain ⟨l, hl, rfl⟩ := key_at hms hd
              have hlm := (both_in hp6 hp7 hpr hl).1
              have hla := (leasesL_perm F).mem_iff.mp hlm
              walk_at "go"
              refine os_neLl hF hla ed.al rfl rfl ?_
              walk_at "go"
              refine ⟨fun h => ?_, fun h => ?_⟩
              · have hne : l ≠ q := by simpa using h
                have he := ed_other (r := r) hF hp6 ed hla hne
                walk_at "go"
                refine ⟨apX F p6 r, rfl, ?_⟩
                walk_at "go"
                refine ⟨apX F p6 r, leaseTK l, .int 0, rfl, rfl, by show 1 ≤ 8; decide, rfl, ?_⟩
                rw [ap_get hlm]
                walk_at "go"
                refine ⟨apX F (togQ F p6 q) r, rfl, ?_⟩
                walk_at "go"
                refine ⟨apX F (togQ F p6 q) r, leaseTK l, .int 0, rfl, rfl, by show 1 ≤ 8; decide, rfl, ?_⟩
                rw [ap_get hlm, he]
                walk_at "go"
                refine ⟨fun h => absurd h (by simp), fun _ => ?_⟩
                walk_at "go"
                exact To.of _ rfl (by walk_at "wk") (by walk_at "wk") (by simp)
              · walk_at "go"
                exact To.of _ rfl (by walk_at "wk") (by walk_at "wk") (by simp)
            · rintro _ rfl _
              exact To.of _ rfl (by walk_at "wk") (by walk_at "wk") (by simp)
          · rw [sizeLine_eq]; omega
        rintro _ rfl _
        have habs := ed_if (r := r) hF hp6 ed
        have hsum : ((apL F (togQ F p6 q) r).map fun l => (apartB F (togQ F p6 q) r l : Int)).sum = distB F (togQ F p6 q) r := ap_sum
        walk_at "go"
        refine ⟨apX F p6 r, rfl, ?_⟩
        walk_at "go"
        refine ⟨apX F p6 r, leaseTK q, .int 0, rfl, rfl, by show 1 ≤ 8; decide, rfl, ?_⟩
        rw [ap_get hql]
        walk_at "go"
        refine ⟨apX F (togQ F p6 q) r, rfl, ?_⟩
        walk_at "go"
        refine ⟨apX F (togQ F p6 q) r, leaseTK q, .int 0, rfl, rfl, by show 1 ≤ 8; decide, rfl, ?_⟩
        rw [ap_get hql]
        walk_at "go"
        rw [habs]
        refine ⟨fun h => absurd h (by decide), fun _ => ?_⟩
        walk_at "go"
        refine use_distB hF hp7 hpr ?_
        walk_at "go"
        refine ev_sumV ?_
        walk_at "go"
        refine ⟨_, _, rfl, apX_vals F (togQ F p6 q) r, ?_⟩
        rw [hsum]
        walk_at "go"
        refine ⟨fun h => absurd h (by simp), fun _ => ?_⟩
        walk_at "go"
        exact To.of _ rfl (by walk_at "wk") (by walk_at "wk") (by simp)
      · rintro _ rfl _
        exact To.of _ rfl (by walk_at "wk") (by walk_at "wk") (by simp)
    rintro _ rfl _
    refine ex_cut (fun s => s = ⟨[.ro ns, .own 0, .un, .dat F.d, .dat (pinsD ps), .dat (.tuple (dI p6)), .dat (.list (besD rs)), .un, .un, .un, .dat (leaseD q), .dat (.tuple (dI (togQ F p6 q))), .dat (.list (befD F (togQ F p6 q) rs)), .un, .un, .un, .un], [some b7.d]⟩) ?_ ?_
    · walk_at "go"
      refine use_apartsO hF hp6 hp7 ?_
      walk_at "go"
      refine ⟨rfl, leaseTK q, rfl, by show 1 ≤ 8; decide, ?_⟩
      rw [ed_ap hF hp6 ed]
      walk_at "go"
      refine use_alikeA (W := 200000) (kk := 3) rfl (by have z := ap_any hF hp6 hp7; rw [ed_ap hF hp6 ed] at z; exact z) (by decide) (by decide) ?_
      walk_at "go"
      exact To.of _ rfl (by walk_at "wk") (by walk_at "wk") (by simp)
    rintro _ rfl _
    walk_at "go"
    exact To.of _ ⟨b7, togQ F p6 q, by omega, hp7, hw7, rfl⟩ (by walk_at "wk") (by walk_at "wk") (by simp)
  rintro _ ⟨b5, rfl⟩ _
  walk_at "go"
  exact k _
  )]
  intro _ hNoI
  simpa using (fun (_ : NoI.Sg) => hNoI) [5]
end LW

end

namespace LW
open PySem PySem.Spec PyProof.Rows L2 SH
theorem len_size : ∀ svs m Ψ, C_size svs m Ψ → svs.length = 1 := by (rintro svs m Ψ h; first | (obtain ⟨_, rfl, _⟩ := h; rfl) | (obtain ⟨_, _, rfl, _⟩ := h; rfl) | (obtain ⟨_, _, _, rfl, _⟩ := h; rfl) | (obtain ⟨_, _, _, _, rfl, _⟩ := h; rfl) | (obtain ⟨_, _, _, _, _, rfl, _⟩ := h; rfl) | (obtain ⟨_, _, _, _, _, _, rfl, _⟩ := h; rfl) | (obtain ⟨_, _, _, _, _, _, _, rfl, _⟩ := h; rfl) | (obtain ⟨_, _, _, _, _, _, _, _, rfl, _⟩ := h; rfl) | (obtain ⟨_, _, ⟨rfl, _⟩ | ⟨rfl, _⟩, _⟩ := h <;> rfl) | (obtain ⟨_, ⟨rfl, _⟩ | ⟨rfl, _⟩, _⟩ := h <;> rfl))
theorem len_restarts_of : ∀ svs m Ψ, C_restarts_of svs m Ψ → svs.length = 2 := by (rintro svs m Ψ h; first | (obtain ⟨_, rfl, _⟩ := h; rfl) | (obtain ⟨_, _, rfl, _⟩ := h; rfl) | (obtain ⟨_, _, _, rfl, _⟩ := h; rfl) | (obtain ⟨_, _, _, _, rfl, _⟩ := h; rfl) | (obtain ⟨_, _, _, _, _, rfl, _⟩ := h; rfl) | (obtain ⟨_, _, _, _, _, _, rfl, _⟩ := h; rfl) | (obtain ⟨_, _, _, _, _, _, _, rfl, _⟩ := h; rfl) | (obtain ⟨_, _, _, _, _, _, _, _, rfl, _⟩ := h; rfl) | (obtain ⟨_, _, ⟨rfl, _⟩ | ⟨rfl, _⟩, _⟩ := h <;> rfl) | (obtain ⟨_, ⟨rfl, _⟩ | ⟨rfl, _⟩, _⟩ := h <;> rfl))
theorem len_leases_of : ∀ svs m Ψ, C_leases_of svs m Ψ → svs.length = 1 := by (rintro svs m Ψ h; first | (obtain ⟨_, rfl, _⟩ := h; rfl) | (obtain ⟨_, _, rfl, _⟩ := h; rfl) | (obtain ⟨_, _, _, rfl, _⟩ := h; rfl) | (obtain ⟨_, _, _, _, rfl, _⟩ := h; rfl) | (obtain ⟨_, _, _, _, _, rfl, _⟩ := h; rfl) | (obtain ⟨_, _, _, _, _, _, rfl, _⟩ := h; rfl) | (obtain ⟨_, _, _, _, _, _, _, rfl, _⟩ := h; rfl) | (obtain ⟨_, _, _, _, _, _, _, _, rfl, _⟩ := h; rfl) | (obtain ⟨_, _, ⟨rfl, _⟩ | ⟨rfl, _⟩, _⟩ := h <;> rfl) | (obtain ⟨_, ⟨rfl, _⟩ | ⟨rfl, _⟩, _⟩ := h <;> rfl))
theorem len_hopping_before : ∀ svs m Ψ, C_hopping_before svs m Ψ → svs.length = 3 := by (rintro svs m Ψ h; first | (obtain ⟨_, rfl, _⟩ := h; rfl) | (obtain ⟨_, _, rfl, _⟩ := h; rfl) | (obtain ⟨_, _, _, rfl, _⟩ := h; rfl) | (obtain ⟨_, _, _, _, rfl, _⟩ := h; rfl) | (obtain ⟨_, _, _, _, _, rfl, _⟩ := h; rfl) | (obtain ⟨_, _, _, _, _, _, rfl, _⟩ := h; rfl) | (obtain ⟨_, _, _, _, _, _, _, rfl, _⟩ := h; rfl) | (obtain ⟨_, _, _, _, _, _, _, _, rfl, _⟩ := h; rfl) | (obtain ⟨_, _, ⟨rfl, _⟩ | ⟨rfl, _⟩, _⟩ := h <;> rfl) | (obtain ⟨_, ⟨rfl, _⟩ | ⟨rfl, _⟩, _⟩ := h <;> rfl))
theorem len_reduced : ∀ svs m Ψ, C_reduced svs m Ψ → svs.length = 1 := by (rintro svs m Ψ h; first | (obtain ⟨_, rfl, _⟩ := h; rfl) | (obtain ⟨_, _, rfl, _⟩ := h; rfl) | (obtain ⟨_, _, _, rfl, _⟩ := h; rfl) | (obtain ⟨_, _, _, _, rfl, _⟩ := h; rfl) | (obtain ⟨_, _, _, _, _, rfl, _⟩ := h; rfl) | (obtain ⟨_, _, _, _, _, _, rfl, _⟩ := h; rfl) | (obtain ⟨_, _, _, _, _, _, _, rfl, _⟩ := h; rfl) | (obtain ⟨_, _, _, _, _, _, _, _, rfl, _⟩ := h; rfl) | (obtain ⟨_, _, ⟨rfl, _⟩ | ⟨rfl, _⟩, _⟩ := h <;> rfl) | (obtain ⟨_, ⟨rfl, _⟩ | ⟨rfl, _⟩, _⟩ := h <;> rfl))
theorem len_joined : ∀ svs m Ψ, C_joined svs m Ψ → svs.length = 2 := by (rintro svs m Ψ h; first | (obtain ⟨_, rfl, _⟩ := h; rfl) | (obtain ⟨_, _, rfl, _⟩ := h; rfl) | (obtain ⟨_, _, _, rfl, _⟩ := h; rfl) | (obtain ⟨_, _, _, _, rfl, _⟩ := h; rfl) | (obtain ⟨_, _, _, _, _, rfl, _⟩ := h; rfl) | (obtain ⟨_, _, _, _, _, _, rfl, _⟩ := h; rfl) | (obtain ⟨_, _, _, _, _, _, _, rfl, _⟩ := h; rfl) | (obtain ⟨_, _, _, _, _, _, _, _, rfl, _⟩ := h; rfl) | (obtain ⟨_, _, ⟨rfl, _⟩ | ⟨rfl, _⟩, _⟩ := h <;> rfl) | (obtain ⟨_, ⟨rfl, _⟩ | ⟨rfl, _⟩, _⟩ := h <;> rfl))
theorem len_inverse : ∀ svs m Ψ, C_inverse svs m Ψ → svs.length = 1 := by (rintro svs m Ψ h; first | (obtain ⟨_, rfl, _⟩ := h; rfl) | (obtain ⟨_, _, rfl, _⟩ := h; rfl) | (obtain ⟨_, _, _, rfl, _⟩ := h; rfl) | (obtain ⟨_, _, _, _, rfl, _⟩ := h; rfl) | (obtain ⟨_, _, _, _, _, rfl, _⟩ := h; rfl) | (obtain ⟨_, _, _, _, _, _, rfl, _⟩ := h; rfl) | (obtain ⟨_, _, _, _, _, _, _, rfl, _⟩ := h; rfl) | (obtain ⟨_, _, _, _, _, _, _, _, rfl, _⟩ := h; rfl) | (obtain ⟨_, _, ⟨rfl, _⟩ | ⟨rfl, _⟩, _⟩ := h <;> rfl) | (obtain ⟨_, ⟨rfl, _⟩ | ⟨rfl, _⟩, _⟩ := h <;> rfl))
theorem len_walk : ∀ svs m Ψ, C_walk svs m Ψ → svs.length = 2 := by (rintro svs m Ψ h; first | (obtain ⟨_, rfl, _⟩ := h; rfl) | (obtain ⟨_, _, rfl, _⟩ := h; rfl) | (obtain ⟨_, _, _, rfl, _⟩ := h; rfl) | (obtain ⟨_, _, _, _, rfl, _⟩ := h; rfl) | (obtain ⟨_, _, _, _, _, rfl, _⟩ := h; rfl) | (obtain ⟨_, _, _, _, _, _, rfl, _⟩ := h; rfl) | (obtain ⟨_, _, _, _, _, _, _, rfl, _⟩ := h; rfl) | (obtain ⟨_, _, _, _, _, _, _, _, rfl, _⟩ := h; rfl) | (obtain ⟨_, _, ⟨rfl, _⟩ | ⟨rfl, _⟩, _⟩ := h <;> rfl) | (obtain ⟨_, ⟨rfl, _⟩ | ⟨rfl, _⟩, _⟩ := h <;> rfl))
theorem len_vertex_in : ∀ svs m Ψ, C_vertex_in svs m Ψ → svs.length = 3 := by (rintro svs m Ψ h; first | (obtain ⟨_, rfl, _⟩ := h; rfl) | (obtain ⟨_, _, rfl, _⟩ := h; rfl) | (obtain ⟨_, _, _, rfl, _⟩ := h; rfl) | (obtain ⟨_, _, _, _, rfl, _⟩ := h; rfl) | (obtain ⟨_, _, _, _, _, rfl, _⟩ := h; rfl) | (obtain ⟨_, _, _, _, _, _, rfl, _⟩ := h; rfl) | (obtain ⟨_, _, _, _, _, _, _, rfl, _⟩ := h; rfl) | (obtain ⟨_, _, _, _, _, _, _, _, rfl, _⟩ := h; rfl) | (obtain ⟨_, _, ⟨rfl, _⟩ | ⟨rfl, _⟩, _⟩ := h <;> rfl) | (obtain ⟨_, ⟨rfl, _⟩ | ⟨rfl, _⟩, _⟩ := h <;> rfl))
theorem len_apart : ∀ svs m Ψ, C_apart svs m Ψ → svs.length = 4 := by (rintro svs m Ψ h; first | (obtain ⟨_, rfl, _⟩ := h; rfl) | (obtain ⟨_, _, rfl, _⟩ := h; rfl) | (obtain ⟨_, _, _, rfl, _⟩ := h; rfl) | (obtain ⟨_, _, _, _, rfl, _⟩ := h; rfl) | (obtain ⟨_, _, _, _, _, rfl, _⟩ := h; rfl) | (obtain ⟨_, _, _, _, _, _, rfl, _⟩ := h; rfl) | (obtain ⟨_, _, _, _, _, _, _, rfl, _⟩ := h; rfl) | (obtain ⟨_, _, _, _, _, _, _, _, rfl, _⟩ := h; rfl) | (obtain ⟨_, _, ⟨rfl, _⟩ | ⟨rfl, _⟩, _⟩ := h <;> rfl) | (obtain ⟨_, ⟨rfl, _⟩ | ⟨rfl, _⟩, _⟩ := h <;> rfl))
theorem len_aparts : ∀ svs m Ψ, C_aparts svs m Ψ → svs.length = 3 := by (rintro svs m Ψ h; first | (obtain ⟨_, rfl, _⟩ := h; rfl) | (obtain ⟨_, _, rfl, _⟩ := h; rfl) | (obtain ⟨_, _, _, rfl, _⟩ := h; rfl) | (obtain ⟨_, _, _, _, rfl, _⟩ := h; rfl) | (obtain ⟨_, _, _, _, _, rfl, _⟩ := h; rfl) | (obtain ⟨_, _, _, _, _, _, rfl, _⟩ := h; rfl) | (obtain ⟨_, _, _, _, _, _, _, rfl, _⟩ := h; rfl) | (obtain ⟨_, _, _, _, _, _, _, _, rfl, _⟩ := h; rfl) | (obtain ⟨_, _, ⟨rfl, _⟩ | ⟨rfl, _⟩, _⟩ := h <;> rfl) | (obtain ⟨_, ⟨rfl, _⟩ | ⟨rfl, _⟩, _⟩ := h <;> rfl))
theorem len_distance : ∀ svs m Ψ, C_distance svs m Ψ → svs.length = 3 := by (rintro svs m Ψ h; first | (obtain ⟨_, rfl, _⟩ := h; rfl) | (obtain ⟨_, _, rfl, _⟩ := h; rfl) | (obtain ⟨_, _, _, rfl, _⟩ := h; rfl) | (obtain ⟨_, _, _, _, rfl, _⟩ := h; rfl) | (obtain ⟨_, _, _, _, _, rfl, _⟩ := h; rfl) | (obtain ⟨_, _, _, _, _, _, rfl, _⟩ := h; rfl) | (obtain ⟨_, _, _, _, _, _, _, rfl, _⟩ := h; rfl) | (obtain ⟨_, _, _, _, _, _, _, _, rfl, _⟩ := h; rfl) | (obtain ⟨_, _, ⟨rfl, _⟩ | ⟨rfl, _⟩, _⟩ := h <;> rfl) | (obtain ⟨_, ⟨rfl, _⟩ | ⟨rfl, _⟩, _⟩ := h <;> rfl))
theorem len__law_bag : ∀ svs m Ψ, C__law_bag svs m Ψ → svs.length = 1 := by (rintro svs m Ψ h; first | (obtain ⟨_, rfl, _⟩ := h; rfl) | (obtain ⟨_, _, rfl, _⟩ := h; rfl) | (obtain ⟨_, _, _, rfl, _⟩ := h; rfl) | (obtain ⟨_, _, _, _, rfl, _⟩ := h; rfl) | (obtain ⟨_, _, _, _, _, rfl, _⟩ := h; rfl) | (obtain ⟨_, _, _, _, _, _, rfl, _⟩ := h; rfl) | (obtain ⟨_, _, _, _, _, _, _, rfl, _⟩ := h; rfl) | (obtain ⟨_, _, _, _, _, _, _, _, rfl, _⟩ := h; rfl) | (obtain ⟨_, _, ⟨rfl, _⟩ | ⟨rfl, _⟩, _⟩ := h <;> rfl) | (obtain ⟨_, ⟨rfl, _⟩ | ⟨rfl, _⟩, _⟩ := h <;> rfl))
theorem len__law_take : ∀ svs m Ψ, C__law_take svs m Ψ → svs.length = 2 := by (rintro svs m Ψ h; first | (obtain ⟨_, rfl, _⟩ := h; rfl) | (obtain ⟨_, _, rfl, _⟩ := h; rfl) | (obtain ⟨_, _, _, rfl, _⟩ := h; rfl) | (obtain ⟨_, _, _, _, rfl, _⟩ := h; rfl) | (obtain ⟨_, _, _, _, _, rfl, _⟩ := h; rfl) | (obtain ⟨_, _, _, _, _, _, rfl, _⟩ := h; rfl) | (obtain ⟨_, _, _, _, _, _, _, rfl, _⟩ := h; rfl) | (obtain ⟨_, _, _, _, _, _, _, _, rfl, _⟩ := h; rfl) | (obtain ⟨_, _, ⟨rfl, _⟩ | ⟨rfl, _⟩, _⟩ := h <;> rfl) | (obtain ⟨_, ⟨rfl, _⟩ | ⟨rfl, _⟩, _⟩ := h <;> rfl))
theorem len__law_some : ∀ svs m Ψ, C__law_some svs m Ψ → svs.length = 2 := by (rintro svs m Ψ h; first | (obtain ⟨_, rfl, _⟩ := h; rfl) | (obtain ⟨_, _, rfl, _⟩ := h; rfl) | (obtain ⟨_, _, _, rfl, _⟩ := h; rfl) | (obtain ⟨_, _, _, _, rfl, _⟩ := h; rfl) | (obtain ⟨_, _, _, _, _, rfl, _⟩ := h; rfl) | (obtain ⟨_, _, _, _, _, _, rfl, _⟩ := h; rfl) | (obtain ⟨_, _, _, _, _, _, _, rfl, _⟩ := h; rfl) | (obtain ⟨_, _, _, _, _, _, _, _, rfl, _⟩ := h; rfl) | (obtain ⟨_, _, ⟨rfl, _⟩ | ⟨rfl, _⟩, _⟩ := h <;> rfl) | (obtain ⟨_, ⟨rfl, _⟩ | ⟨rfl, _⟩, _⟩ := h <;> rfl))
theorem len__law_mixed : ∀ svs m Ψ, C__law_mixed svs m Ψ → svs.length = 2 := by (rintro svs m Ψ h; first | (obtain ⟨_, rfl, _⟩ := h; rfl) | (obtain ⟨_, _, rfl, _⟩ := h; rfl) | (obtain ⟨_, _, _, rfl, _⟩ := h; rfl) | (obtain ⟨_, _, _, _, rfl, _⟩ := h; rfl) | (obtain ⟨_, _, _, _, _, rfl, _⟩ := h; rfl) | (obtain ⟨_, _, _, _, _, _, rfl, _⟩ := h; rfl) | (obtain ⟨_, _, _, _, _, _, _, rfl, _⟩ := h; rfl) | (obtain ⟨_, _, _, _, _, _, _, _, rfl, _⟩ := h; rfl) | (obtain ⟨_, _, ⟨rfl, _⟩ | ⟨rfl, _⟩, _⟩ := h <;> rfl) | (obtain ⟨_, ⟨rfl, _⟩ | ⟨rfl, _⟩, _⟩ := h <;> rfl))
theorem len__law_alike : ∀ svs m Ψ, C__law_alike svs m Ψ → svs.length = 2 := by (rintro svs m Ψ h; first | (obtain ⟨_, rfl, _⟩ := h; rfl) | (obtain ⟨_, _, rfl, _⟩ := h; rfl) | (obtain ⟨_, _, _, rfl, _⟩ := h; rfl) | (obtain ⟨_, _, _, _, rfl, _⟩ := h; rfl) | (obtain ⟨_, _, _, _, _, rfl, _⟩ := h; rfl) | (obtain ⟨_, _, _, _, _, _, rfl, _⟩ := h; rfl) | (obtain ⟨_, _, _, _, _, _, _, rfl, _⟩ := h; rfl) | (obtain ⟨_, _, _, _, _, _, _, _, rfl, _⟩ := h; rfl) | (obtain ⟨_, _, ⟨rfl, _⟩ | ⟨rfl, _⟩, _⟩ := h <;> rfl) | (obtain ⟨_, ⟨rfl, _⟩ | ⟨rfl, _⟩, _⟩ := h <;> rfl))
theorem len__law_names : ∀ svs m Ψ, C__law_names svs m Ψ → svs.length = 2 := by (rintro svs m Ψ h; first | (obtain ⟨_, rfl, _⟩ := h; rfl) | (obtain ⟨_, _, rfl, _⟩ := h; rfl) | (obtain ⟨_, _, _, rfl, _⟩ := h; rfl) | (obtain ⟨_, _, _, _, rfl, _⟩ := h; rfl) | (obtain ⟨_, _, _, _, _, rfl, _⟩ := h; rfl) | (obtain ⟨_, _, _, _, _, _, rfl, _⟩ := h; rfl) | (obtain ⟨_, _, _, _, _, _, _, rfl, _⟩ := h; rfl) | (obtain ⟨_, _, _, _, _, _, _, _, rfl, _⟩ := h; rfl) | (obtain ⟨_, _, ⟨rfl, _⟩ | ⟨rfl, _⟩, _⟩ := h <;> rfl) | (obtain ⟨_, ⟨rfl, _⟩ | ⟨rfl, _⟩, _⟩ := h <;> rfl))
theorem len__law_fleet : ∀ svs m Ψ, C__law_fleet svs m Ψ → svs.length = 3 := by (rintro svs m Ψ h; first | (obtain ⟨_, rfl, _⟩ := h; rfl) | (obtain ⟨_, _, rfl, _⟩ := h; rfl) | (obtain ⟨_, _, _, rfl, _⟩ := h; rfl) | (obtain ⟨_, _, _, _, rfl, _⟩ := h; rfl) | (obtain ⟨_, _, _, _, _, rfl, _⟩ := h; rfl) | (obtain ⟨_, _, _, _, _, _, rfl, _⟩ := h; rfl) | (obtain ⟨_, _, _, _, _, _, _, rfl, _⟩ := h; rfl) | (obtain ⟨_, _, _, _, _, _, _, _, rfl, _⟩ := h; rfl) | (obtain ⟨_, _, ⟨rfl, _⟩ | ⟨rfl, _⟩, _⟩ := h <;> rfl) | (obtain ⟨_, ⟨rfl, _⟩ | ⟨rfl, _⟩, _⟩ := h <;> rfl))
theorem len__law_plan : ∀ svs m Ψ, C__law_plan svs m Ψ → svs.length = 2 := by (rintro svs m Ψ h; first | (obtain ⟨_, rfl, _⟩ := h; rfl) | (obtain ⟨_, _, rfl, _⟩ := h; rfl) | (obtain ⟨_, _, _, rfl, _⟩ := h; rfl) | (obtain ⟨_, _, _, _, rfl, _⟩ := h; rfl) | (obtain ⟨_, _, _, _, _, rfl, _⟩ := h; rfl) | (obtain ⟨_, _, _, _, _, _, rfl, _⟩ := h; rfl) | (obtain ⟨_, _, _, _, _, _, _, rfl, _⟩ := h; rfl) | (obtain ⟨_, _, _, _, _, _, _, _, rfl, _⟩ := h; rfl) | (obtain ⟨_, _, ⟨rfl, _⟩ | ⟨rfl, _⟩, _⟩ := h <;> rfl) | (obtain ⟨_, ⟨rfl, _⟩ | ⟨rfl, _⟩, _⟩ := h <;> rfl))
theorem len__law_end : ∀ svs m Ψ, C__law_end svs m Ψ → svs.length = 2 := by (rintro svs m Ψ h; first | (obtain ⟨_, rfl, _⟩ := h; rfl) | (obtain ⟨_, _, rfl, _⟩ := h; rfl) | (obtain ⟨_, _, _, rfl, _⟩ := h; rfl) | (obtain ⟨_, _, _, _, rfl, _⟩ := h; rfl) | (obtain ⟨_, _, _, _, _, rfl, _⟩ := h; rfl) | (obtain ⟨_, _, _, _, _, _, rfl, _⟩ := h; rfl) | (obtain ⟨_, _, _, _, _, _, _, rfl, _⟩ := h; rfl) | (obtain ⟨_, _, _, _, _, _, _, _, rfl, _⟩ := h; rfl) | (obtain ⟨_, _, ⟨rfl, _⟩ | ⟨rfl, _⟩, _⟩ := h <;> rfl) | (obtain ⟨_, ⟨rfl, _⟩ | ⟨rfl, _⟩, _⟩ := h <;> rfl))
theorem len__law_leases : ∀ svs m Ψ, C__law_leases svs m Ψ → svs.length = 1 := by (rintro svs m Ψ h; first | (obtain ⟨_, rfl, _⟩ := h; rfl) | (obtain ⟨_, _, rfl, _⟩ := h; rfl) | (obtain ⟨_, _, _, rfl, _⟩ := h; rfl) | (obtain ⟨_, _, _, _, rfl, _⟩ := h; rfl) | (obtain ⟨_, _, _, _, _, rfl, _⟩ := h; rfl) | (obtain ⟨_, _, _, _, _, _, rfl, _⟩ := h; rfl) | (obtain ⟨_, _, _, _, _, _, _, rfl, _⟩ := h; rfl) | (obtain ⟨_, _, _, _, _, _, _, _, rfl, _⟩ := h; rfl) | (obtain ⟨_, _, ⟨rfl, _⟩ | ⟨rfl, _⟩, _⟩ := h <;> rfl) | (obtain ⟨_, ⟨rfl, _⟩ | ⟨rfl, _⟩, _⟩ := h <;> rfl))
theorem len__law_pins : ∀ svs m Ψ, C__law_pins svs m Ψ → svs.length = 2 := by (rintro svs m Ψ h; first | (obtain ⟨_, rfl, _⟩ := h; rfl) | (obtain ⟨_, _, rfl, _⟩ := h; rfl) | (obtain ⟨_, _, _, rfl, _⟩ := h; rfl) | (obtain ⟨_, _, _, _, rfl, _⟩ := h; rfl) | (obtain ⟨_, _, _, _, _, rfl, _⟩ := h; rfl) | (obtain ⟨_, _, _, _, _, _, rfl, _⟩ := h; rfl) | (obtain ⟨_, _, _, _, _, _, _, rfl, _⟩ := h; rfl) | (obtain ⟨_, _, _, _, _, _, _, _, rfl, _⟩ := h; rfl) | (obtain ⟨_, _, ⟨rfl, _⟩ | ⟨rfl, _⟩, _⟩ := h <;> rfl) | (obtain ⟨_, ⟨rfl, _⟩ | ⟨rfl, _⟩, _⟩ := h <;> rfl))
theorem len__law_stands : ∀ svs m Ψ, C__law_stands svs m Ψ → svs.length = 2 := by (rintro svs m Ψ h; first | (obtain ⟨_, rfl, _⟩ := h; rfl) | (obtain ⟨_, _, rfl, _⟩ := h; rfl) | (obtain ⟨_, _, _, rfl, _⟩ := h; rfl) | (obtain ⟨_, _, _, _, rfl, _⟩ := h; rfl) | (obtain ⟨_, _, _, _, _, rfl, _⟩ := h; rfl) | (obtain ⟨_, _, _, _, _, _, rfl, _⟩ := h; rfl) | (obtain ⟨_, _, _, _, _, _, _, rfl, _⟩ := h; rfl) | (obtain ⟨_, _, _, _, _, _, _, _, rfl, _⟩ := h; rfl) | (obtain ⟨_, _, ⟨rfl, _⟩ | ⟨rfl, _⟩, _⟩ := h <;> rfl) | (obtain ⟨_, ⟨rfl, _⟩ | ⟨rfl, _⟩, _⟩ := h <;> rfl))
theorem len__law_wide : ∀ svs m Ψ, C__law_wide svs m Ψ → svs.length = 1 := by (rintro svs m Ψ h; first | (obtain ⟨_, rfl, _⟩ := h; rfl) | (obtain ⟨_, _, rfl, _⟩ := h; rfl) | (obtain ⟨_, _, _, rfl, _⟩ := h; rfl) | (obtain ⟨_, _, _, _, rfl, _⟩ := h; rfl) | (obtain ⟨_, _, _, _, _, rfl, _⟩ := h; rfl) | (obtain ⟨_, _, _, _, _, _, rfl, _⟩ := h; rfl) | (obtain ⟨_, _, _, _, _, _, _, rfl, _⟩ := h; rfl) | (obtain ⟨_, _, _, _, _, _, _, _, rfl, _⟩ := h; rfl) | (obtain ⟨_, _, ⟨rfl, _⟩ | ⟨rfl, _⟩, _⟩ := h <;> rfl) | (obtain ⟨_, ⟨rfl, _⟩ | ⟨rfl, _⟩, _⟩ := h <;> rfl))
theorem len__law_near : ∀ svs m Ψ, C__law_near svs m Ψ → svs.length = 3 := by (rintro svs m Ψ h; first | (obtain ⟨_, rfl, _⟩ := h; rfl) | (obtain ⟨_, _, rfl, _⟩ := h; rfl) | (obtain ⟨_, _, _, rfl, _⟩ := h; rfl) | (obtain ⟨_, _, _, _, rfl, _⟩ := h; rfl) | (obtain ⟨_, _, _, _, _, rfl, _⟩ := h; rfl) | (obtain ⟨_, _, _, _, _, _, rfl, _⟩ := h; rfl) | (obtain ⟨_, _, _, _, _, _, _, rfl, _⟩ := h; rfl) | (obtain ⟨_, _, _, _, _, _, _, _, rfl, _⟩ := h; rfl) | (obtain ⟨_, _, ⟨rfl, _⟩ | ⟨rfl, _⟩, _⟩ := h <;> rfl) | (obtain ⟨_, ⟨rfl, _⟩ | ⟨rfl, _⟩, _⟩ := h <;> rfl))
theorem len__law_cut_fleet : ∀ svs m Ψ, C__law_cut_fleet svs m Ψ → svs.length = 3 := by (rintro svs m Ψ h; first | (obtain ⟨_, rfl, _⟩ := h; rfl) | (obtain ⟨_, _, rfl, _⟩ := h; rfl) | (obtain ⟨_, _, _, rfl, _⟩ := h; rfl) | (obtain ⟨_, _, _, _, rfl, _⟩ := h; rfl) | (obtain ⟨_, _, _, _, _, rfl, _⟩ := h; rfl) | (obtain ⟨_, _, _, _, _, _, rfl, _⟩ := h; rfl) | (obtain ⟨_, _, _, _, _, _, _, rfl, _⟩ := h; rfl) | (obtain ⟨_, _, _, _, _, _, _, _, rfl, _⟩ := h; rfl) | (obtain ⟨_, _, ⟨rfl, _⟩ | ⟨rfl, _⟩, _⟩ := h <;> rfl) | (obtain ⟨_, ⟨rfl, _⟩ | ⟨rfl, _⟩, _⟩ := h <;> rfl))
theorem len__law_middle : ∀ svs m Ψ, C__law_middle svs m Ψ → svs.length = 1 := by (rintro svs m Ψ h; first | (obtain ⟨_, rfl, _⟩ := h; rfl) | (obtain ⟨_, _, rfl, _⟩ := h; rfl) | (obtain ⟨_, _, _, rfl, _⟩ := h; rfl) | (obtain ⟨_, _, _, _, rfl, _⟩ := h; rfl) | (obtain ⟨_, _, _, _, _, rfl, _⟩ := h; rfl) | (obtain ⟨_, _, _, _, _, _, rfl, _⟩ := h; rfl) | (obtain ⟨_, _, _, _, _, _, _, rfl, _⟩ := h; rfl) | (obtain ⟨_, _, _, _, _, _, _, _, rfl, _⟩ := h; rfl) | (obtain ⟨_, _, ⟨rfl, _⟩ | ⟨rfl, _⟩, _⟩ := h <;> rfl) | (obtain ⟨_, ⟨rfl, _⟩ | ⟨rfl, _⟩, _⟩ := h <;> rfl))
theorem len__law_exchanged : ∀ svs m Ψ, C__law_exchanged svs m Ψ → svs.length = 3 := by (rintro svs m Ψ h; first | (obtain ⟨_, rfl, _⟩ := h; rfl) | (obtain ⟨_, _, rfl, _⟩ := h; rfl) | (obtain ⟨_, _, _, rfl, _⟩ := h; rfl) | (obtain ⟨_, _, _, _, rfl, _⟩ := h; rfl) | (obtain ⟨_, _, _, _, _, rfl, _⟩ := h; rfl) | (obtain ⟨_, _, _, _, _, _, rfl, _⟩ := h; rfl) | (obtain ⟨_, _, _, _, _, _, _, rfl, _⟩ := h; rfl) | (obtain ⟨_, _, _, _, _, _, _, _, rfl, _⟩ := h; rfl) | (obtain ⟨_, _, ⟨rfl, _⟩ | ⟨rfl, _⟩, _⟩ := h <;> rfl) | (obtain ⟨_, ⟨rfl, _⟩ | ⟨rfl, _⟩, _⟩ := h <;> rfl))
theorem len_law : ∀ svs m Ψ, C_law svs m Ψ → svs.length = 1 := by (rintro svs m Ψ h; first | (obtain ⟨_, rfl, _⟩ := h; rfl) | (obtain ⟨_, _, rfl, _⟩ := h; rfl) | (obtain ⟨_, _, _, rfl, _⟩ := h; rfl) | (obtain ⟨_, _, _, _, rfl, _⟩ := h; rfl) | (obtain ⟨_, _, _, _, _, rfl, _⟩ := h; rfl) | (obtain ⟨_, _, _, _, _, _, rfl, _⟩ := h; rfl) | (obtain ⟨_, _, _, _, _, _, _, rfl, _⟩ := h; rfl) | (obtain ⟨_, _, _, _, _, _, _, _, rfl, _⟩ := h; rfl) | (obtain ⟨_, _, ⟨rfl, _⟩ | ⟨rfl, _⟩, _⟩ := h <;> rfl) | (obtain ⟨_, ⟨rfl, _⟩ | ⟨rfl, _⟩, _⟩ := h <;> rfl))
def topS (i : Nat) : Stmt := PySem.Challenge.pw_sparehop_k25_whole_each_edit_moves_one_l.main.body.getD i (.Pass ⟨0, 0, 0, 0⟩)
abbrev s_size : Stmt := topS 1
abbrev N_size : List Str := ["fleet"]
theorem sc_size : FnScope N_size ["fleet"] (defScope s_size) := ⟨rfl, rfl, rfl, by decide +kernel, rfl, by decide +kernel, by decide +kernel⟩
abbrev s_restarts_of : Stmt := topS 2
abbrev N_restarts_of : List Str := ["fleet", "service", "number"]
theorem sc_restarts_of : FnScope N_restarts_of ["fleet", "service"] (defScope s_restarts_of) := ⟨rfl, rfl, rfl, by decide +kernel, rfl, by decide +kernel, by decide +kernel⟩
abbrev s_leases_of : Stmt := topS 3
abbrev N_leases_of : List Str := ["fleet", "leases", "service", "number"]
theorem sc_leases_of : FnScope N_leases_of ["fleet"] (defScope s_leases_of) := ⟨rfl, rfl, rfl, by decide +kernel, rfl, by decide +kernel, by decide +kernel⟩
abbrev s_hopping_before : Stmt := topS 4
abbrev N_hopping_before : List Str := ["fleet", "plan", "stretch", "number"]
theorem sc_hopping_before : FnScope N_hopping_before ["fleet", "plan", "stretch"] (defScope s_hopping_before) := ⟨rfl, rfl, rfl, by decide +kernel, rfl, by decide +kernel, by decide +kernel⟩
abbrev s_reduced : Stmt := topS 6
abbrev N_reduced : List Str := ["word", "items", "item"]
theorem sc_reduced : FnScope N_reduced ["word"] (defScope s_reduced) := ⟨rfl, rfl, rfl, by decide +kernel, rfl, by decide +kernel, by decide +kernel⟩
abbrev s_joined : Stmt := topS 7
abbrev N_joined : List Str := ["first", "second"]
theorem sc_joined : FnScope N_joined ["first", "second"] (defScope s_joined) := ⟨rfl, rfl, rfl, by decide +kernel, rfl, by decide +kernel, by decide +kernel⟩
abbrev s_inverse : Stmt := topS 8
abbrev N_inverse : List Str := ["word"]
theorem sc_inverse : FnScope N_inverse ["word"] (defScope s_inverse) := ⟨rfl, rfl, rfl, by decide +kernel, rfl, by decide +kernel, by decide +kernel⟩
abbrev s_walk : Stmt := topS 9
abbrev N_walk : List Str := ["one", "other"]
theorem sc_walk : FnScope N_walk ["one", "other"] (defScope s_walk) := ⟨rfl, rfl, rfl, by decide +kernel, rfl, by decide +kernel, by decide +kernel⟩
abbrev s_vertex_in : Stmt := topS 11
abbrev N_vertex_in : List Str := ["fleet", "plan", "stretch"]
theorem sc_vertex_in : FnScope N_vertex_in ["fleet", "plan", "stretch"] (defScope s_vertex_in) := ⟨rfl, rfl, rfl, by decide +kernel, rfl, by decide +kernel, by decide +kernel⟩
abbrev s_apart : Stmt := topS 13
abbrev N_apart : List Str := ["fleet", "one", "other", "lease", "service", "begin"]
theorem sc_apart : FnScope N_apart ["fleet", "one", "other", "lease"] (defScope s_apart) := ⟨rfl, rfl, rfl, by decide +kernel, rfl, by decide +kernel, by decide +kernel⟩
abbrev s_aparts : Stmt := topS 14
abbrev N_aparts : List Str := ["fleet", "one", "other", "told", "lease", "many"]
theorem sc_aparts : FnScope N_aparts ["fleet", "one", "other"] (defScope s_aparts) := ⟨rfl, rfl, rfl, by decide +kernel, rfl, by decide +kernel, by decide +kernel⟩
abbrev s_distance : Stmt := topS 15
abbrev N_distance : List Str := ["fleet", "one", "other", "lease"]
theorem sc_distance : FnScope N_distance ["fleet", "one", "other"] (defScope s_distance) := ⟨rfl, rfl, rfl, by decide +kernel, rfl, by decide +kernel, by decide +kernel⟩
abbrev s__law_bag : Stmt := topS 17
abbrev N__law_bag : List Str := ["script", "cell"]
theorem sc__law_bag : FnScope N__law_bag ["script"] (defScope s__law_bag) := ⟨rfl, rfl, rfl, by decide +kernel, rfl, by decide +kernel, by decide +kernel⟩
abbrev s__law_take : Stmt := topS 18
abbrev N__law_take : List Str := ["bag", "many", "cell", "stirred", "value", "begin", "second"]
theorem sc__law_take : FnScope N__law_take ["bag", "many"] (defScope s__law_take) := ⟨rfl, rfl, rfl, by decide +kernel, rfl, by decide +kernel, by decide +kernel⟩
abbrev s__law_some : Stmt := topS 19
abbrev N__law_some : List Str := ["bag", "things"]
theorem sc__law_some : FnScope N__law_some ["bag", "things"] (defScope s__law_some) := ⟨rfl, rfl, rfl, by decide +kernel, rfl, by decide +kernel, by decide +kernel⟩
abbrev s__law_mixed : Stmt := topS 20
abbrev N__law_mixed : List Str := ["bag", "things", "found", "thing"]
theorem sc__law_mixed : FnScope N__law_mixed ["bag", "things"] (defScope s__law_mixed) := ⟨rfl, rfl, rfl, by decide +kernel, rfl, by decide +kernel, by decide +kernel⟩
abbrev s__law_alike : Stmt := topS 21
abbrev N__law_alike : List Str := ["found", "due"]
theorem sc__law_alike : FnScope N__law_alike ["found", "due"] (defScope s__law_alike) := ⟨rfl, rfl, rfl, by decide +kernel, rfl, by decide +kernel, by decide +kernel⟩
abbrev s__law_names : Stmt := topS 22
abbrev N__law_names : List Str := ["bag", "many", "letters", "kind", "first", "found", "stem", "at", "turn"]
theorem sc__law_names : FnScope N__law_names ["bag", "many"] (defScope s__law_names) := ⟨rfl, rfl, rfl, by decide +kernel, rfl, by decide +kernel, by decide +kernel⟩
abbrev s__law_fleet : Stmt := topS 23
abbrev N__law_fleet : List Str := ["bag", "many", "most", "services", "kind", "places", "some", "restarts", "at", "one"]
theorem sc__law_fleet : FnScope N__law_fleet ["bag", "many", "most"] (defScope s__law_fleet) := ⟨rfl, rfl, rfl, by decide +kernel, rfl, by decide +kernel, by decide +kernel⟩
abbrev s__law_plan : Stmt := topS 24
abbrev N__law_plan : List Str := ["bag", "fleet", "least", "j"]
theorem sc__law_plan : FnScope N__law_plan ["bag", "fleet"] (defScope s__law_plan) := ⟨rfl, rfl, rfl, by decide +kernel, rfl, by decide +kernel, by decide +kernel⟩
abbrev s__law_end : Stmt := topS 25
abbrev N__law_end : List Str := ["fleet", "lease", "service", "begin", "j", "one"]
theorem sc__law_end : FnScope N__law_end ["fleet", "lease"] (defScope s__law_end) := ⟨rfl, rfl, rfl, by decide +kernel, rfl, by decide +kernel, by decide +kernel⟩
abbrev s__law_leases : Stmt := topS 26
abbrev N__law_leases : List Str := ["fleet", "found", "service", "j"]
theorem sc__law_leases : FnScope N__law_leases ["fleet"] (defScope s__law_leases) := ⟨rfl, rfl, rfl, by decide +kernel, rfl, by decide +kernel, by decide +kernel⟩
abbrev s__law_pins : Stmt := topS 27
abbrev N__law_pins : List Str := ["bag", "fleet", "some", "of", "lease"]
theorem sc__law_pins : FnScope N__law_pins ["bag", "fleet"] (defScope s__law_pins) := ⟨rfl, rfl, rfl, by decide +kernel, rfl, by decide +kernel, by decide +kernel⟩
abbrev s__law_stands : Stmt := topS 28
abbrev N__law_stands : List Str := ["fleet", "plan", "now", "found", "spares", "free", "j", "service", "machine"]
theorem sc__law_stands : FnScope N__law_stands ["fleet", "plan"] (defScope s__law_stands) := ⟨rfl, rfl, rfl, by decide +kernel, rfl, by decide +kernel, by decide +kernel⟩
abbrev s__law_wide : Stmt := topS 29
abbrev N__law_wide : List Str := ["bag"]
theorem sc__law_wide : FnScope N__law_wide ["bag"] (defScope s__law_wide) := ⟨rfl, rfl, rfl, by decide +kernel, rfl, by decide +kernel, by decide +kernel⟩
abbrev s__law_near : Stmt := topS 30
abbrev N__law_near : List Str := ["fleet", "plan", "pins", "spares", "found", "lease", "some"]
theorem sc__law_near : FnScope N__law_near ["fleet", "plan", "pins"] (defScope s__law_near) := ⟨rfl, rfl, rfl, by decide +kernel, rfl, by decide +kernel, by decide +kernel⟩
abbrev s__law_cut_fleet : Stmt := topS 31
abbrev N__law_cut_fleet : List Str := ["bag", "many", "most", "services", "places", "restarts"]
theorem sc__law_cut_fleet : FnScope N__law_cut_fleet ["bag", "many", "most"] (defScope s__law_cut_fleet) := ⟨rfl, rfl, rfl, by decide +kernel, rfl, by decide +kernel, by decide +kernel⟩
abbrev s__law_middle : Stmt := topS 32
abbrev N__law_middle : List Str := ["bag"]
theorem sc__law_middle : FnScope N__law_middle ["bag"] (defScope s__law_middle) := ⟨rfl, rfl, rfl, by decide +kernel, rfl, by decide +kernel, by decide +kernel⟩
abbrev s__law_exchanged : Stmt := topS 33
abbrev N__law_exchanged : List Str := ["fleet", "plan", "lease", "end", "ends", "j"]
theorem sc__law_exchanged : FnScope N__law_exchanged ["fleet", "plan", "lease"] (defScope s__law_exchanged) := ⟨rfl, rfl, rfl, by decide +kernel, rfl, by decide +kernel, by decide +kernel⟩
abbrev s_law : Stmt := topS 34
abbrev N_law : List Str := ["script", "bag", "is_wide", "fleet", "pins", "plan", "beside", "before", "step", "some", "lease", "later", "now", "one", "two", "other", "its"]
theorem sc_law : FnScope N_law ["script"] (defScope s_law) := ⟨rfl, rfl, rfl, by decide +kernel, rfl, by decide +kernel, by decide +kernel⟩
section
variable {P : Program} [ww : WW] {K : PySem.W.Frag} {mg : Str → Option Value} {base : Heap}
theorem ok_size {f : Addr} {fd : FuncData} (F : Fun K "size" "size" s_size f fd) (z_len : mg "len" = none) : FnG P WW.w K mg base CX0 1 f fd ["fleet"] (spP K C_size) := by
  refine NoI.keep (fun _ wNoI => ?_) ?_
  simp only [↓ NoI.wrOf wNoI (by
  clear wNoI
  refine okG F sc_size len_size fun cdv A outer s H E hG hr => ⟨t_size K, ?_, wp_size⟩
  exact (pss_one (ps_ret (pe_callB call_len (by rfl) z_len (by decide +kernel) (pa_cons (pe_ix (ix_U hr.units) (pv 0) pe_int (fun _ _ => rfl)) pa_nil))))
  )]
  intro _ hNoI
  simpa using (fun (_ : NoI.Sg) => hNoI) [5]
theorem ok_restarts_of {f : Addr} {fd : FuncData} (F : Fun K "restarts_of" "restarts_of" s_restarts_of f fd) (c_size : Cal P K mg base 1 "size" ["fleet"] C_size) (z_range : mg "range" = none) (z_tuple : mg "tuple" = none) : FnG P WW.w K mg base CX0 2 f fd ["fleet", "service"] (spP K C_restarts_of) := by
  refine NoI.keep (fun _ wNoI => ?_) ?_
  simp only [↓ NoI.wrOf wNoI (by
  clear wNoI
  refine okG F sc_restarts_of len_restarts_of fun cdv A outer s H E hG hr => ⟨t_restarts_of K, ?_, wp_restarts_of⟩
  exact (pss_one (ps_ret (pe_callTy call_tupF (by rfl) z_tuple (by decide +kernel) (pa_cons (pe_lc (own := [("number", 2)]) rfl sc_restarts_of.nd (pi_range1 (by rfl) z_range (pa_cons (pe_callC c_size hG (hr.mono (by decide)) (by rfl) (pa_cons (pv 0) pa_nil)) pa_nil)) (blkOk_by (own := [("number", 2)]) (N := N_restarts_of) (sc := defScope s_restarts_of) (by decide +kernel)) (fun _ _ _ _ _ => (pg_name (i := 2) sc_restarts_of.nd rfl (by first | exact .inl rfl | exact .inr rfl))) (fun _ _ _ _ _ => (pts_one (pt_cmpR (op_eqU hr.units) (pe_ix (ix_U hr.units) (pe_ix (ix_U hr.units) (pv 0) pe_int (fun _ _ => rfl)) (pv 2) (fun _ _ => rfl)) (pv 1) (nomark _)))) (fun _ _ _ _ _ => (pv 2))) pa_nil))))
  )]
  intro _ hNoI
  simpa using (fun (_ : NoI.Sg) => hNoI) [5]
theorem ok_leases_of {f : Addr} {fd : FuncData} (F : Fun K "leases_of" "leases_of" s_leases_of f fd) (c_restarts_of : Cal P K mg base 2 "restarts_of" ["fleet", "service"] C_restarts_of) (z_tuple : mg "tuple" = none) : FnG P WW.w K mg base CX0 3 f fd ["fleet"] (spP K C_leases_of) := by
  refine NoI.keep (fun _ wNoI => ?_) ?_
  simp only [↓ NoI.wrOf wNoI (by
  clear wNoI
  refine okG F sc_leases_of len_leases_of fun cdv A outer s H E hG hr => ⟨t_leases_of K, ?_, wp_leases_of⟩
  exact (pss_cons (ps_set (i := 1) sc_leases_of.nd rfl (by first | exact .inl rfl | exact .inr rfl) (pe_lst pa_nil))
  (pss_cons (ps_for PassesOwn.never rfl (pi_seq (pe_ix (ix_U hr.units) (pv 0) pe_int (fun _ _ => rfl))) (pg_name (i := 2) sc_leases_of.nd rfl (by first | exact .inl rfl | exact .inr rfl))
    (pss_cons (ps_expr (pe_bm PySem.F.plainAttrs_list PySem.F.slot_list_append PySem.F.type_list_append mt_append (pv 1) (pa_cons (pe_tupF (pa_cons (pv 2) (pa_cons pe_int pa_nil))) pa_nil)))
  (pss_one (ps_expr (pe_bm PySem.F.plainAttrs_list PySem.F.slot_list_extend PySem.F.type_list_extend mt_extend (pv 1) (pa_cons (pe_lc (own := [("number", 3)]) rfl sc_leases_of.nd (pi_seq (pe_callC c_restarts_of hG (hr.mono (by decide)) (by rfl) (pa_cons (pv 0) (pa_cons (pv 2) pa_nil)))) (blkOk_by (own := [("number", 3)]) (N := N_leases_of) (sc := defScope s_leases_of) (by decide +kernel)) (fun _ _ _ _ _ => (pg_name (i := 3) sc_leases_of.nd rfl (by first | exact .inl rfl | exact .inr rfl))) (fun _ _ _ _ _ => pts_nil) (fun _ _ _ _ _ => (pe_tupF (pa_cons (pv 2) (pa_cons (pe_op op_addU (pv 3) pe_int) pa_nil))))) pa_nil))))))
  (pss_one (ps_ret (pe_callTy call_tupF (by rfl) z_tuple (by decide +kernel) (pa_cons (pv 1) pa_nil))))))
  )]
  intro _ hNoI
  simpa using (fun (_ : NoI.Sg) => hNoI) [5]
theorem ok_hopping_before {f : Addr} {fd : FuncData} (F : Fun K "hopping_before" "hopping_before" s_hopping_before f fd) (z_tuple : mg "tuple" = none) : FnG P WW.w K mg base CX0 1 f fd ["fleet", "plan", "stretch"] (spP K C_hopping_before) := by
  refine NoI.keep (fun _ wNoI => ?_) ?_
  simp only [↓ NoI.wrOf wNoI (by
  clear wNoI
  refine okG F sc_hopping_before len_hopping_before fun cdv A outer s H E hG hr => ⟨t_hopping_before K, ?_, wp_hopping_before⟩
  exact (pss_one (ps_ret (pe_callTy call_tupF (by rfl) z_tuple (by decide +kernel) (pa_cons (pe_lc (own := [("number", 3)]) rfl sc_hopping_before.nd (pi_seq (pv 1)) (blkOk_by (own := [("number", 3)]) (N := N_hopping_before) (sc := defScope s_hopping_before) (by decide +kernel)) (fun _ _ _ _ _ => (pg_name (i := 3) sc_hopping_before.nd rfl (by first | exact .inl rfl | exact .inr rfl))) (fun _ _ _ _ _ => (pts_one (pt_cmpR op_lt (pv 3) (pv 2) (nomark _)))) (fun _ _ _ _ _ => (pe_ix (ix_U hr.units) (pe_ix (ix_U hr.units) (pv 0) pe_int (fun _ _ => rfl)) (pv 3) (fun _ _ => rfl)))) pa_nil))))
  )]
  intro _ hNoI
  simpa using (fun (_ : NoI.Sg) => hNoI) [5]
theorem ok_reduced {f : Addr} {fd : FuncData} (F : Fun K "reduced" "reduced" s_reduced f fd) (z_tuple : mg "tuple" = none) : FnG P WW.w K mg base CX0 1 f fd ["word"] (spP K C_reduced) := by
  refine NoI.keep (fun _ wNoI => ?_) ?_
  simp only [↓ NoI.wrOf wNoI (by
  clear wNoI
  refine okG F sc_reduced len_reduced fun cdv A outer s H E hG hr => ⟨t_reduced K, ?_, wp_reduced⟩
  exact (pss_cons (ps_set (i := 1) sc_reduced.nd rfl (by first | exact .inl rfl | exact .inr rfl) (pe_lst pa_nil))
  (pss_cons (ps_for PassesOwn.never rfl (pi_seq (pv 0)) (pg_name (i := 2) sc_reduced.nd rfl (by first | exact .inl rfl | exact .inr rfl))
    (pss_one (ps_if (PW.pt (pw_and (pt_tru (pv 1)) (pw_and1 (pt_cmpR (op_eqU hr.units) (pe_ix (ix_U hr.units) (pv 1) (pe_un un_neg pe_int) (fun _ _ => rfl)) (pv 2) (nomark _)))))
    (pss_one (ps_expr (pe_bm0 PySem.F.plainAttrs_list PySem.F.slot_list_pop PySem.F.type_list_pop mt_pop (pv 1))))
    (pss_one (ps_expr (pe_bm PySem.F.plainAttrs_list PySem.F.slot_list_append PySem.F.type_list_append mt_append (pv 1) (pa_cons (pv 2) pa_nil)))))))
  (pss_one (ps_ret (pe_callTy call_tupF (by rfl) z_tuple (by decide +kernel) (pa_cons (pv 1) pa_nil))))))
  )]
  intro _ hNoI
  simpa using (fun (_ : NoI.Sg) => hNoI) [5]
theorem ok_joined {f : Addr} {fd : FuncData} (F : Fun K "joined" "joined" s_joined f fd) (c_reduced : Cal P K mg base 1 "reduced" ["word"] C_reduced) : FnG P WW.w K mg base CX0 2 f fd ["first", "second"] (spP K C_joined) := by
  refine NoI.keep (fun _ wNoI => ?_) ?_
  simp only [↓ NoI.wrOf wNoI (by
  clear wNoI
  refine okG F sc_joined len_joined fun cdv A outer s H E hG hr => ⟨t_joined K, ?_, wp_joined⟩
  exact (pss_one (ps_ret (pe_callC c_reduced hG (hr.mono (by decide)) (by rfl) (pa_cons (pe_op op_addU (pv 0) (pv 1)) pa_nil))))
  )]
  intro _ hNoI
  simpa using (fun (_ : NoI.Sg) => hNoI) [5]
theorem ok_inverse {f : Addr} {fd : FuncData} (F : Fun K "inverse" "inverse" s_inverse f fd) : FnG P WW.w K mg base CX0 1 f fd ["word"] (spP K C_inverse) := by
  refine okG F sc_inverse len_inverse fun cdv A outer s H E hG hr => ⟨t_inverse K, ?_, wp_inverse⟩
  exact (pss_one (ps_ret (pe_revU (pv 0))))
theorem ok_walk {f : Addr} {fd : FuncData} (F : Fun K "walk" "walk" s_walk f fd) (c_joined : Cal P K mg base 2 "joined" ["first", "second"] C_joined) (c_inverse : Cal P K mg base 1 "inverse" ["word"] C_inverse) : FnG P WW.w K mg base CX0 3 f fd ["one", "other"] (spP K C_walk) := by
  refine NoI.keep (fun _ wNoI => ?_) ?_
  simp only [↓ NoI.wrOf wNoI (by
  clear wNoI
  refine okG F sc_walk len_walk fun cdv A outer s H E hG hr => ⟨t_walk K, ?_, wp_walk⟩
  exact (pss_one (ps_ret (pe_callC c_joined hG (hr.mono (by decide)) (by rfl) (pa_cons (pe_callC c_inverse hG (hr.mono (by decide)) (by rfl) (pa_cons (pv 0) pa_nil)) (pa_cons (pv 1) pa_nil)))))
  )]
  intro _ hNoI
  simpa using (fun (_ : NoI.Sg) => hNoI) [5]
theorem ok_vertex_in {f : Addr} {fd : FuncData} (F : Fun K "vertex_in" "vertex_in" s_vertex_in f fd) (c_hopping_before : Cal P K mg base 1 "hopping_before" ["fleet", "plan", "stretch"] C_hopping_before) (c_reduced : Cal P K mg base 1 "reduced" ["word"] C_reduced) : FnG P WW.w K mg base CX0 2 f fd ["fleet", "plan", "stretch"] (spP K C_vertex_in) := by
  refine NoI.keep (fun _ wNoI => ?_) ?_
  simp only [↓ NoI.wrOf wNoI (by
  clear wNoI
  refine okG F sc_vertex_in len_vertex_in fun cdv A outer s H E hG hr => ⟨t_vertex_in K, ?_, wp_vertex_in⟩
  exact (pss_one (ps_ret (pe_callC c_reduced hG (hr.mono (by decide)) (by rfl) (pa_cons (pe_callC c_hopping_before hG (hr.mono (by decide)) (by rfl) (pa_cons (pv 0) (pa_cons (pv 1) (pa_cons (pv 2) pa_nil)))) pa_nil))))
  )]
  intro _ hNoI
  simpa using (fun (_ : NoI.Sg) => hNoI) [5]
theorem ok_apart {f : Addr} {fd : FuncData} (F : Fun K "apart" "apart" s_apart f fd) (c_walk : Cal P K mg base 3 "walk" ["one", "other"] C_walk) (c_vertex_in : Cal P K mg base 2 "vertex_in" ["fleet", "plan", "stretch"] C_vertex_in) : FnG P WW.w K mg base CX0 4 f fd ["fleet", "one", "other", "lease"] (spP K C_apart) := by
  refine NoI.keep (fun _ wNoI => ?_) ?_
  simp only [↓ NoI.wrOf wNoI (by
  clear wNoI
  refine okG F sc_apart len_apart fun cdv A outer s H E hG hr => ⟨t_apart K, ?_, wp_apart⟩
  exact (pss_cons (ps_asg (pv 3) (pg_tup (by rfl) (pgs_cons (pg_name (i := 4) sc_apart.nd rfl (by first | exact .inl rfl | exact .inr rfl)) (pgs_cons (pg_name (i := 5) sc_apart.nd rfl (by first | exact .inl rfl | exact .inr rfl)) pgs_nil))))
  (pss_one (ps_ret (pe_cnt (pe_callC c_walk hG (hr.mono (by decide)) (by rfl) (pa_cons (pe_callC c_vertex_in hG (hr.mono (by decide)) (by rfl) (pa_cons (pv 0) (pa_cons (pv 1) (pa_cons (pv 5) pa_nil)))) (pa_cons (pe_callC c_vertex_in hG (hr.mono (by decide)) (by rfl) (pa_cons (pv 0) (pa_cons (pv 2) (pa_cons (pv 5) pa_nil)))) pa_nil))) (pv 4)))))
  )]
  intro _ hNoI
  simpa using (fun (_ : NoI.Sg) => hNoI) [5]
theorem ok_aparts {f : Addr} {fd : FuncData} (F : Fun K "aparts" "aparts" s_aparts f fd) (c_leases_of : Cal P K mg base 3 "leases_of" ["fleet"] C_leases_of) (c_apart : Cal P K mg base 4 "apart" ["fleet", "one", "other", "lease"] C_apart) : FnG P WW.w K mg base CX0 5 f fd ["fleet", "one", "other"] (spP K C_aparts) := by
  refine NoI.keep (fun _ wNoI => ?_) ?_
  simp only [↓ NoI.wrOf wNoI (by
  clear wNoI
  refine okG F sc_aparts len_aparts fun cdv A outer s H E hG hr => ⟨t_aparts K, ?_, wp_aparts⟩
  exact (pss_cons (ps_setDcx (i := 3) (own := [("lease", 4)]) hr.units rfl sc_aparts.nd rfl rfl (sw_dc rfl rfl rfl (by decide +kernel)) (pi_seq (pe_callC c_leases_of hG (hr.mono (by decide)) (by rfl) (pa_cons (pv 0) pa_nil))) (blkOk_by (own := [("lease", 4)]) (N := N_aparts) (sc := defScope s_aparts) (by decide +kernel)) (fun _ _ _ _ _ => (pg_name (i := 4) sc_aparts.nd rfl (by first | exact .inl rfl | exact .inr rfl))) (fun _ _ _ _ _ => pts_nil) (fun _ _ _ _ _ => (pv 4)) (fun _ _ _ _ _ => (pe_callC c_apart hG (hr.mono (by decide)) (by rfl) (pa_cons (pv 0) (pa_cons (pv 1) (pa_cons (pv 2) (pa_cons (pv 4) pa_nil)))))))
  (pss_one (ps_ret (pe_dcx (own := [("lease", 4), ("many", 5)]) hr.units rfl sc_aparts.nd (pi_itemsD (pv 3)) (blkOk_by (own := [("lease", 4), ("many", 5)]) (N := N_aparts) (sc := defScope s_aparts) (by decide +kernel)) (fun _ _ _ _ _ => (pg_tup (by rfl) (pgs_cons (pg_name (i := 4) sc_aparts.nd rfl (by first | exact .inl rfl | exact .inr rfl)) (pgs_cons (pg_name (i := 5) sc_aparts.nd rfl (by first | exact .inl rfl | exact .inr rfl)) pgs_nil)))) (fun _ _ _ _ _ => (pts_one (pt_cmpR op_gt (pv 5) pe_int (nomark _)))) (fun _ _ _ _ _ => (pv 4)) (fun _ _ _ _ _ => (pv 5))))))
  )]
  intro _ hNoI
  simpa using (fun (_ : NoI.Sg) => hNoI) [5]
theorem ok_distance {f : Addr} {fd : FuncData} (F : Fun K "distance" "distance" s_distance f fd) (c_leases_of : Cal P K mg base 3 "leases_of" ["fleet"] C_leases_of) (c_apart : Cal P K mg base 4 "apart" ["fleet", "one", "other", "lease"] C_apart) (z_sum : mg "sum" = none) : FnG P WW.w K mg base CX0 5 f fd ["fleet", "one", "other"] (spP K C_distance) := by
  refine NoI.keep (fun _ wNoI => ?_) ?_
  simp only [↓ NoI.wrOf wNoI (by
  clear wNoI
  refine okG F sc_distance len_distance fun cdv A outer s H E hG hr => ⟨t_distance K, ?_, wp_distance⟩
  exact (pss_one (ps_ret (pe_callB (call_sumU (by rfl)) (by rfl) z_sum (by decide +kernel) (pa_cons (pe_lc (own := [("lease", 3)]) rfl sc_distance.nd (pi_seq (pe_callC c_leases_of hG (hr.mono (by decide)) (by rfl) (pa_cons (pv 0) pa_nil))) (blkOk_by (own := [("lease", 3)]) (N := N_distance) (sc := defScope s_distance) (by decide +kernel)) (fun _ _ _ _ _ => (pg_name (i := 3) sc_distance.nd rfl (by first | exact .inl rfl | exact .inr rfl))) (fun _ _ _ _ _ => pts_nil) (fun _ _ _ _ _ => (pe_callC c_apart hG (hr.mono (by decide)) (by rfl) (pa_cons (pv 0) (pa_cons (pv 1) (pa_cons (pv 2) (pa_cons (pv 3) pa_nil))))))) pa_nil))))
  )]
  intro _ hNoI
  simpa using (fun (_ : NoI.Sg) => hNoI) [5]
theorem ok__law_bag {f : Addr} {fd : FuncData} (F : Fun K "_law_bag" "_law_bag" s__law_bag f fd) (z_abs : mg "abs" = none) : FnG P WW.w K mg base CX0 1 f fd ["script"] (spP K C__law_bag) := by
  refine NoI.keep (fun _ wNoI => ?_) ?_
  simp only [↓ NoI.wrOf wNoI (by
  clear wNoI
  refine okG F sc__law_bag len__law_bag fun cdv A outer s H E hG hr => ⟨t__law_bag K, ?_, wp__law_bag⟩
  exact (pss_one (ps_ret (pe_lst (pa_cons pe_int (pa_cons pe_int (pa_cons pe_int (pa_cons (pe_lc (own := [("cell", 1)]) rfl sc__law_bag.nd (pi_seq (pe_slice sl_U (pv 0) po_none (po_some pe_int))) (blkOk_by (own := [("cell", 1)]) (N := N__law_bag) (sc := defScope s__law_bag) (by decide +kernel)) (fun _ _ _ _ _ => (pg_name (i := 1) sc__law_bag.nd rfl (by first | exact .inl rfl | exact .inr rfl))) (fun _ _ _ _ _ => pts_nil) (fun _ _ _ _ _ => (pe_callB call_abs (by rfl) z_abs (by decide +kernel) (pa_cons (pv 1) pa_nil)))) pa_nil)))))))
  )]
  intro _ hNoI
  simpa using (fun (_ : NoI.Sg) => hNoI) [5]
theorem ok__law_take {f : Addr} {fd : FuncData} (F : Fun K "_law_take" "_law_take" s__law_take f fd) (z_int : mg "int" = none) : FnG P WW.w K mg base CX0 1 f fd ["bag", "many"] (spP K C__law_take) := by
  refine NoI.keep (fun _ wNoI => ?_) ?_
  simp only [↓ NoI.wrOf wNoI (by
  clear wNoI
  refine okG F sc__law_take len__law_take fun cdv A outer s H E hG hr => ⟨t__law_take K, ?_, wp__law_take⟩
  exact (pss_cons (ps_if (pt_cmpR (op_eqU hr.units) (pe_ix (ix_U hr.units) (pv 0) pe_int (fun _ _ => rfl)) pe_int (nomark _))
    (pss_cons (ps_set (i := 2) sc__law_take.nd rfl (by first | exact .inl rfl | exact .inr rfl) (pe_ix (ix_U hr.units) (pe_op op_addU (pe_slice sl_U (pe_ix (ix_U hr.units) (pv 0) pe_int (fun _ _ => rfl)) (po_some (pe_ix (ix_U hr.units) (pv 0) pe_int (fun _ _ => rfl))) po_none) (pe_lst (pa_cons pe_int pa_nil))) pe_int (fun _ _ => rfl)))
  (pss_cons (ps_augS (pv 0) pe_int pget_list pe_int ip_add set_list)
  (pss_cons (ps_if (pt_cmpR op_ge (pv 2) (pe_op op_pow pe_int pe_int) (nomark _))
    (pss_one (ps_asg (pv 2) (pg_sub (pv 0) pe_int set_list)))
    pss_nil)
  (pss_cons (ps_set (i := 3) sc__law_take.nd rfl (by first | exact .inl rfl | exact .inr rfl) (pe_op op_addU (pe_op op_addU (pe_op op_mulX (pe_ix (ix_U hr.units) (pv 0) pe_int (fun _ _ => rfl)) pe_int) (pe_op op_modN (pe_callTy call_int1 (by rfl) z_int (by decide +kernel) (pa_cons (pv 2) pa_nil)) pe_int)) (pe_op op_mulX pe_int (pe_ix (ix_U hr.units) (pv 0) pe_int (fun _ _ => rfl)))))
  (pss_one (ps_asg (pe_op op_modN (pe_callTy call_int1 (by rfl) z_int (by decide +kernel) (pa_cons (pv 3) pa_nil)) pe_int) (pg_sub (pv 0) pe_int set_list)))))))
    pss_nil)
  (pss_cons (ps_if (pt_cmpR op_gt (pe_ix (ix_U hr.units) (pv 0) pe_int (fun _ _ => rfl)) pe_int (nomark _))
    (pss_cons (ps_set (i := 4) sc__law_take.nd rfl (by first | exact .inl rfl | exact .inr rfl) (pe_op op_modN (pe_callTy call_int1 (by rfl) z_int (by decide +kernel) (pa_cons (pe_ix (ix_U hr.units) (pv 0) pe_int (fun _ _ => rfl)) pa_nil)) (pv 1)))
  (pss_cons (ps_asg (pe_op op_fdivW (pe_callTy call_int1 (by rfl) z_int (by decide +kernel) (pa_cons (pe_ix (ix_U hr.units) (pv 0) pe_int (fun _ _ => rfl)) pa_nil)) (pv 1)) (pg_sub (pv 0) pe_int set_list))
  (pss_one (ps_ret (pv 4)))))
    pss_nil)
  (pss_cons (ps_set (i := 5) sc__law_take.nd rfl (by first | exact .inl rfl | exact .inr rfl) (pe_op op_modN (pe_callTy call_int1 (by rfl) z_int (by decide +kernel) (pa_cons (pe_op op_mulX (pe_op op_addU (pe_ix (ix_U hr.units) (pv 0) pe_int (fun _ _ => rfl)) pe_int) pe_int) pa_nil)) pe_int))
  (pss_cons (ps_set (i := 6) sc__law_take.nd rfl (by first | exact .inl rfl | exact .inr rfl) (pe_op op_modN (pe_callTy call_int1 (by rfl) z_int (by decide +kernel) (pa_cons (pe_op op_mulX (pe_op op_modN (pe_callTy call_int1 (by rfl) z_int (by decide +kernel) (pa_cons (pe_op op_mulX (pv 5) (pv 5)) pa_nil)) pe_int) pe_int) pa_nil)) pe_int))
  (pss_one (ps_ret (pe_op op_modN (pe_callTy call_int1 (by rfl) z_int (by decide +kernel) (pa_cons (pe_op op_fdivW (pv 6) pe_int) pa_nil)) (pv 1))))))))
  )]
  intro _ hNoI
  simpa using (fun (_ : NoI.Sg) => hNoI) [5]
theorem ok__law_some {f : Addr} {fd : FuncData} (F : Fun K "_law_some" "_law_some" s__law_some f fd) (c__law_take : Cal P K mg base 1 "_law_take" ["bag", "many"] C__law_take) (z_len : mg "len" = none) : FnG P WW.w K mg base CX0 2 f fd ["bag", "things"] (spP K C__law_some) := by
  refine NoI.keep (fun _ wNoI => ?_) ?_
  simp only [↓ NoI.wrOf wNoI (by
  clear wNoI
  refine okG F sc__law_some len__law_some fun cdv A outer s H E hG hr => ⟨t__law_some K, ?_, wp__law_some⟩
  exact (pss_one (ps_ret (pe_ix (ix_U hr.units) (pv 1) (pe_callC c__law_take hG (hr.mono (by decide)) (by rfl) (pa_cons (pv 0) (pa_cons (pe_callB call_len (by rfl) z_len (by decide +kernel) (pa_cons (pv 1) pa_nil)) pa_nil))) (fun _ _ => rfl))))
  )]
  intro _ hNoI
  simpa using (fun (_ : NoI.Sg) => hNoI) [5]
theorem ok__law_mixed {f : Addr} {fd : FuncData} (F : Fun K "_law_mixed" "_law_mixed" s__law_mixed f fd) (c__law_take : Cal P K mg base 1 "_law_take" ["bag", "many"] C__law_take) (z_len : mg "len" = none) : FnG P WW.w K mg base CX0 2 f fd ["bag", "things"] (spP K C__law_mixed) := by
  refine NoI.keep (fun _ wNoI => ?_) ?_
  simp only [↓ NoI.wrOf wNoI (by
  clear wNoI
  refine okG F sc__law_mixed len__law_mixed fun cdv A outer s H E hG hr => ⟨t__law_mixed K, ?_, wp__law_mixed⟩
  exact (pss_cons (ps_set (i := 2) sc__law_mixed.nd rfl (by first | exact .inl rfl | exact .inr rfl) (pe_lst pa_nil))
  (pss_cons (ps_for PassesOwn.never rfl (pi_seq (pv 1)) (pg_name (i := 3) sc__law_mixed.nd rfl (by first | exact .inl rfl | exact .inr rfl))
    (pss_one (ps_expr (pe_bm PySem.F.plainAttrs_list PySem.F.slot_list_insert PySem.F.type_list_insert mt_insert (pv 2) (pa_cons (pe_callC c__law_take hG (hr.mono (by decide)) (by rfl) (pa_cons (pv 0) (pa_cons (pe_op op_addU (pe_callB call_len (by rfl) z_len (by decide +kernel) (pa_cons (pv 2) pa_nil)) pe_int) pa_nil))) (pa_cons (pv 3) pa_nil))))))
  (pss_one (ps_ret (pv 2)))))
  )]
  intro _ hNoI
  simpa using (fun (_ : NoI.Sg) => hNoI) [5]
theorem ok__law_alike {f : Addr} {fd : FuncData} (F : Fun K "_law_alike" "_law_alike" s__law_alike f fd) (z_repr : mg "repr" = none) : FnG P WW.w K mg base CX0 1 f fd ["found", "due"] (spP K C__law_alike) := by
  refine NoI.keep (fun _ wNoI => ?_) ?_
  simp only [↓ NoI.wrOf wNoI (by
  clear wNoI
  refine okG F sc__law_alike len__law_alike fun cdv A outer s H E hG hr => ⟨t__law_alike K, ?_, wp__law_alike⟩
  exact (pss_one (ps_ret (pe_and (pe_cmpR (op_eqU hr.units) (pv 0) (pv 1) (nomark _)) (pe_one (pe_cmpR (op_eqU hr.units) (pe_callB (call_reprW hG hr) (by rfl) z_repr (by decide +kernel) (pa_cons (pv 0) pa_nil)) (pe_callB (call_reprW hG hr) (by rfl) z_repr (by decide +kernel) (pa_cons (pv 1) pa_nil)) (nomark _))))))
  )]
  intro _ hNoI
  simpa using (fun (_ : NoI.Sg) => hNoI) [5]
theorem ok__law_names {f : Addr} {fd : FuncData} (F : Fun K "_law_names" "_law_names" s__law_names f fd) (c__law_take : Cal P K mg base 1 "_law_take" ["bag", "many"] C__law_take) (c__law_some : Cal P K mg base 2 "_law_some" ["bag", "things"] C__law_some) (c__law_mixed : Cal P K mg base 2 "_law_mixed" ["bag", "things"] C__law_mixed) (z_int : mg "int" = none) (z_range : mg "range" = none) : FnG P WW.w K mg base CX0 3 f fd ["bag", "many"] (spP K C__law_names) := by
  refine NoI.keep (fun _ wNoI => ?_) ?_
  simp only [↓ NoI.wrOf wNoI (by
  clear wNoI
  refine okG F sc__law_names len__law_names fun cdv A outer s H E hG hr => ⟨t__law_names_v2 K, ?_, wp__law_names_v2⟩
  exact (pss_cons (ps_asg (pe_tupF (pa_cons pe_str (pa_cons (pe_callC c__law_take hG (hr.mono (by decide)) (by rfl) (pa_cons (pv 0) (pa_cons pe_int pa_nil))) (pa_cons (pe_callC c__law_take hG (hr.mono (by decide)) (by rfl) (pa_cons (pv 0) (pa_cons pe_int pa_nil))) pa_nil)))) (pg_tup (by rfl) (pgs_cons (pg_name (i := 2) sc__law_names.nd rfl (by first | exact .inl rfl | exact .inr rfl)) (pgs_cons (pg_name (i := 3) sc__law_names.nd rfl (by first | exact .inl rfl | exact .inr rfl)) (pgs_cons (pg_name (i := 4) sc__law_names.nd rfl (by first | exact .inl rfl | exact .inr rfl)) pgs_nil)))))
  (pss_cons (ps_if (pt_cmpR (op_eqU hr.units) (pv 3) pe_int (nomark _))
    (pss_one (ps_setLc (i := 5) (own := [("at", 7)]) rfl sc__law_names.nd rfl rfl (sw_true rfl rfl rfl (by decide +kernel)) (pi_range1 (by rfl) z_range (pa_cons (pv 1) pa_nil)) (blkOk_by (own := [("at", 7)]) (N := N__law_names) (sc := defScope s__law_names) (by decide +kernel)) (fun _ _ _ _ _ => (pg_name (i := 7) sc__law_names.nd rfl (by first | exact .inl rfl | exact .inr rfl))) (fun _ _ _ _ _ => pts_nil) (fun _ _ _ _ _ => (pe_ix (ix_U hr.units) (pv 2) (pe_op op_modN (pe_callTy call_int1 (by rfl) z_int (by decide +kernel) (pa_cons (pe_op op_addU (pv 4) (pv 7)) pa_nil)) pe_int) (fun _ _ => rfl)))))
    (pss_one (ps_if (pt_cmpR (op_eqU hr.units) (pv 3) pe_int (nomark _))
    (pss_one (ps_setLc (i := 5) (own := [("at", 7)]) rfl sc__law_names.nd rfl rfl (sw_true rfl rfl rfl (by decide +kernel)) (pi_range1 (by rfl) z_range (pa_cons (pv 1) pa_nil)) (blkOk_by (own := [("at", 7)]) (N := N__law_names) (sc := defScope s__law_names) (by decide +kernel)) (fun _ _ _ _ _ => (pg_name (i := 7) sc__law_names.nd rfl (by first | exact .inl rfl | exact .inr rfl))) (fun _ _ _ _ _ => pts_nil) (fun _ _ _ _ _ => (pe_op op_mulX (pe_ix (ix_U hr.units) (pv 2) (pv 4) (fun _ _ => rfl)) (pe_op op_addU (pv 7) pe_int)))))
    (pss_one (ps_if (pt_cmpR (op_eqU hr.units) (pv 3) pe_int (nomark _))
    (pss_cons (ps_set (i := 6) sc__law_names.nd rfl (by first | exact .inl rfl | exact .inr rfl) (pe_join pe_str (pe_lc (own := [("turn", 8)]) rfl sc__law_names.nd (pi_range1 (by rfl) z_range (pa_cons (pe_callC c__law_take hG (hr.mono (by decide)) (by rfl) (pa_cons (pv 0) (pa_cons pe_int pa_nil))) pa_nil)) (blkOk_by (own := [("turn", 8)]) (N := N__law_names) (sc := defScope s__law_names) (by decide +kernel)) (fun _ _ _ _ _ => (pg_name (i := 8) sc__law_names.nd rfl (by first | exact .inl rfl | exact .inr rfl))) (fun _ _ _ _ _ => pts_nil) (fun _ _ _ _ _ => (pe_callC c__law_some hG (hr.mono (by decide)) (by rfl) (pa_cons (pv 0) (pa_cons (pv 2) pa_nil)))))))
  (pss_one (ps_setLc (i := 5) (own := [("at", 7)]) rfl sc__law_names.nd rfl rfl (sw_true rfl rfl rfl (by decide +kernel)) (pi_range1 (by rfl) z_range (pa_cons (pv 1) pa_nil)) (blkOk_by (own := [("at", 7)]) (N := N__law_names) (sc := defScope s__law_names) (by decide +kernel)) (fun _ _ _ _ _ => (pg_name (i := 7) sc__law_names.nd rfl (by first | exact .inl rfl | exact .inr rfl))) (fun _ _ _ _ _ => pts_nil) (fun _ _ _ _ _ => (pe_op op_addU (pv 6) (pe_ix (ix_U hr.units) (pv 2) (pe_op op_modN (pe_callTy call_int1 (by rfl) z_int (by decide +kernel) (pa_cons (pe_op op_addU (pv 4) (pv 7)) pa_nil)) pe_int) (fun _ _ => rfl)))))))
    (pss_one (ps_setLc (i := 5) (own := [("at", 7)]) rfl sc__law_names.nd rfl rfl (sw_true rfl rfl rfl (by decide +kernel)) (pi_range1 (by rfl) z_range (pa_cons (pv 1) pa_nil)) (blkOk_by (own := [("at", 7)]) (N := N__law_names) (sc := defScope s__law_names) (by decide +kernel)) (fun _ _ _ _ _ => (pg_name (i := 7) sc__law_names.nd rfl (by first | exact .inl rfl | exact .inr rfl))) (fun _ _ _ _ _ => pts_nil) (fun _ _ _ _ _ => (pe_op op_addU (pe_ix (ix_U hr.units) (pv 2) (pe_op op_modN (pe_callTy call_int1 (by rfl) z_int (by decide +kernel) (pa_cons (pe_op op_addU (pv 4) (pv 7)) pa_nil)) pe_int) (fun _ _ => rfl)) (pe_callC c__law_some hG (hr.mono (by decide)) (by rfl) (pa_cons (pv 0) (pa_cons (pe_lst (pa_cons pe_str (pa_cons pe_str (pa_cons pe_str (pa_cons (pe_slice sl_U (pv 2) po_none (po_some pe_int)) pa_nil))))) pa_nil))))))))))))
  (pss_one (ps_ret (pe_callC c__law_mixed hG (hr.mono (by decide)) (by rfl) (pa_cons (pv 0) (pa_cons (pv 5) pa_nil)))))))
  )]
  intro _ hNoI
  simpa using (fun (_ : NoI.Sg) => hNoI) [5]
theorem ok__law_fleet {f : Addr} {fd : FuncData} (F : Fun K "_law_fleet" "_law_fleet" s__law_fleet f fd) (c__law_take : Cal P K mg base 1 "_law_take" ["bag", "many"] C__law_take) (c__law_some : Cal P K mg base 2 "_law_some" ["bag", "things"] C__law_some) (c__law_mixed : Cal P K mg base 2 "_law_mixed" ["bag", "things"] C__law_mixed) (c__law_names : Cal P K mg base 3 "_law_names" ["bag", "many"] C__law_names) (z_int : mg "int" = none) (z_len : mg "len" = none) (z_list : mg "list" = none) (z_range : mg "range" = none) (z_sorted : mg "sorted" = none) (z_tuple : mg "tuple" = none) : FnG P WW.w K mg base CX0 4 f fd ["bag", "many", "most"] (spP K C__law_fleet) := by
  refine NoI.keep (fun _ wNoI => ?_) ?_
  simp only [↓ NoI.wrOf wNoI (by
  clear wNoI
  refine okG F sc__law_fleet len__law_fleet fun cdv A outer s H E hG hr => ⟨t__law_fleet_v2 K, ?_, wp__law_fleet_v2⟩
  exact (pss_cons (ps_par (i := 3) (j := 4) (by rfl) sc__law_fleet.nd rfl rfl (by decide) rfl rfl (pa_cons (pe_callTy call_tupF (by rfl) z_tuple (by decide +kernel) (pa_cons (pe_callB (call_sortX hr) (by rfl) z_sorted (by decide +kernel) (pa_cons (pe_callC c__law_names hG (hr.mono (by decide)) (by rfl) (pa_cons (pv 0) (pa_cons (pv 1) pa_nil))) pa_nil)) pa_nil)) (pa_cons (pe_callC c__law_take hG (hr.mono (by decide)) (by rfl) (pa_cons (pv 0) (pa_cons pe_int pa_nil))) pa_nil)) (by rfl))
  (pss_cons (ps_set (i := 5) sc__law_fleet.nd rfl (by first | exact .inl rfl | exact .inr rfl) (pe_callTy call_tupF (by rfl) z_tuple (by decide +kernel) (pa_cons (pe_slice sl_U (pe_callC c__law_mixed hG (hr.mono (by decide)) (by rfl) (pa_cons (pv 0) (pa_cons (pe_callTy (call_listW (by rfl)) (by rfl) z_list (by decide +kernel) (pa_cons (pe_callTy call_rng (by rfl) z_range (by decide +kernel) (pa_cons (pe_op op_addU (pv 1) pe_int) pa_nil)) pa_nil)) pa_nil))) po_none (po_some (pv 1))) pa_nil)))
  (pss_cons (ps_par (i := 6) (j := 7) (by rfl) sc__law_fleet.nd rfl rfl (by decide) rfl rfl (pa_cons (pe_callTy (call_listW (by rfl)) (by rfl) z_list (by decide +kernel) (pa_cons (pv 3) pa_nil)) (pa_cons (pe_lst pa_nil) pa_nil)) (by rfl))
  (pss_cons (ps_if (PW.pt (pw_and (pt_cmpR (op_eqU hr.units) (pv 4) pe_int (nomark _)) (pw_and1 (pt_cmpR op_gt (pv 1) pe_int (nomark _)))))
    (pss_one (ps_expr (pe_bm PySem.F.plainAttrs_list PySem.F.slot_list_pop PySem.F.type_list_pop mt_popAt (pv 6) (pa_cons (pe_callC c__law_take hG (hr.mono (by decide)) (by rfl) (pa_cons (pv 0) (pa_cons (pv 1) pa_nil))) pa_nil))))
    pss_nil)
  (pss_cons (ps_for PassesOwn.never rfl (pi_range1 (by rfl) z_range (pa_cons (pe_callC c__law_take hG (hr.mono (by decide)) (by rfl) (pa_cons (pv 0) (pa_cons (pe_op op_addU (pv 2) pe_int) pa_nil))) pa_nil)) (pg_name (i := 8) sc__law_fleet.nd rfl (by first | exact .inl rfl | exact .inr rfl))
    (pss_cons (ps_if (pt_cmpR (op_eqU hr.units) (pv 4) pe_int (nomark _))
    (pss_one (ps_set (i := 9) sc__law_fleet.nd rfl (by first | exact .inl rfl | exact .inr rfl) (pe_ix (ix_U hr.units) (pv 6) (pe_op op_modN (pe_callTy call_int1 (by rfl) z_int (by decide +kernel) (pa_cons (pv 8) pa_nil)) (pe_callB call_len (by rfl) z_len (by decide +kernel) (pa_cons (pv 6) pa_nil))) (fun _ _ => rfl))))
    (pss_one (ps_if (PW.pt (pw_and (pt_cmpR (op_eqU hr.units) (pv 4) pe_int (nomark _)) (pw_and (pt_cmpR (op_neU hr.units) (pv 7) (pe_lst pa_nil) (nomark _)) (pw_and1 (pt_cmpR (op_eqU hr.units) (pe_callC c__law_take hG (hr.mono (by decide)) (by rfl) (pa_cons (pv 0) (pa_cons pe_int pa_nil))) pe_int (nomark _))))))
    (pss_one (ps_set (i := 9) sc__law_fleet.nd rfl (by first | exact .inl rfl | exact .inr rfl) (pe_ix (ix_U hr.units) (pv 7) (pe_un un_neg pe_int) (fun _ _ => rfl))))
    (pss_one (ps_set (i := 9) sc__law_fleet.nd rfl (by first | exact .inl rfl | exact .inr rfl) (pe_callC c__law_some hG (hr.mono (by decide)) (by rfl) (pa_cons (pv 0) (pa_cons (pv 6) pa_nil))))))))
  (pss_one (ps_expr (pe_bm PySem.F.plainAttrs_list PySem.F.slot_list_append PySem.F.type_list_append mt_append (pv 7) (pa_cons (pv 9) pa_nil))))))
  (pss_one (ps_ret (pe_tupF (pa_cons (pv 3) (pa_cons (pv 5) (pa_cons (pe_callTy call_tupF (by rfl) z_tuple (by decide +kernel) (pa_cons (pv 7) pa_nil)) pa_nil)))))))))))
  )]
  intro _ hNoI
  simpa using (fun (_ : NoI.Sg) => hNoI) [5]
theorem ok__law_plan {f : Addr} {fd : FuncData} (F : Fun K "_law_plan" "_law_plan" s__law_plan f fd) (c__law_take : Cal P K mg base 1 "_law_take" ["bag", "many"] C__law_take) (c__law_some : Cal P K mg base 2 "_law_some" ["bag", "things"] C__law_some) (z_len : mg "len" = none) (z_range : mg "range" = none) (z_tuple : mg "tuple" = none) : FnG P WW.w K mg base CX0 3 f fd ["bag", "fleet"] (spP K C__law_plan) := by
  refine NoI.keep (fun _ wNoI => ?_) ?_
  simp only [↓ NoI.wrOf wNoI (by
  clear wNoI
  refine okG F sc__law_plan len__law_plan fun cdv A outer s H E hG hr => ⟨t__law_plan K, ?_, wp__law_plan⟩
  exact (pss_cons (ps_set (i := 2) sc__law_plan.nd rfl (by first | exact .inl rfl | exact .inr rfl) (pe_callC c__law_some hG (hr.mono (by decide)) (by rfl) (pa_cons (pv 0) (pa_cons (pe_lst (pa_cons pe_int (pa_cons pe_int (pa_cons pe_int (pa_cons pe_int pa_nil))))) pa_nil))))
  (pss_one (ps_ret (pe_callTy call_tupF (by rfl) z_tuple (by decide +kernel) (pa_cons (pe_lc (own := [("j", 3)]) rfl sc__law_plan.nd (pi_range1 (by rfl) z_range (pa_cons (pe_callB call_len (by rfl) z_len (by decide +kernel) (pa_cons (pe_ix (ix_U hr.units) (pv 1) pe_int (fun _ _ => rfl)) pa_nil)) pa_nil)) (blkOk_by (own := [("j", 3)]) (N := N__law_plan) (sc := defScope s__law_plan) (by decide +kernel)) (fun _ _ _ _ _ => (pg_name (i := 3) sc__law_plan.nd rfl (by first | exact .inl rfl | exact .inr rfl))) (fun _ _ _ _ _ => (pts_one (pt_cmpR op_le (pe_callC c__law_take hG (hr.mono (by decide)) (by rfl) (pa_cons (pv 0) (pa_cons pe_int pa_nil))) (pv 2) (nomark _)))) (fun _ _ _ _ _ => (pv 3))) pa_nil)))))
  )]
  intro _ hNoI
  simpa using (fun (_ : NoI.Sg) => hNoI) [5]
theorem ok__law_end {f : Addr} {fd : FuncData} (F : Fun K "_law_end" "_law_end" s__law_end f fd) (z_enumerate : mg "enumerate" = none) (z_len : mg "len" = none) : FnG P WW.w K mg base CX0 1 f fd ["fleet", "lease"] (spP K C__law_end) := by
  refine NoI.keep (fun _ wNoI => ?_) ?_
  simp only [↓ NoI.wrOf wNoI (by
  clear wNoI
  refine okG F sc__law_end len__law_end fun cdv A outer s H E hG hr => ⟨t__law_end K, ?_, wp__law_end⟩
  exact (pss_cons (ps_asg (pv 1) (pg_tup (by rfl) (pgs_cons (pg_name (i := 2) sc__law_end.nd rfl (by first | exact .inl rfl | exact .inr rfl)) (pgs_cons (pg_name (i := 3) sc__law_end.nd rfl (by first | exact .inl rfl | exact .inr rfl)) pgs_nil))))
  (pss_cons (ps_for PassesOwn.never rfl (pi_enumU (by rfl) z_enumerate (pa_cons (pe_ix (ix_U hr.units) (pv 0) pe_int (fun _ _ => rfl)) pa_nil)) (pg_tup (by rfl) (pgs_cons (pg_name (i := 4) sc__law_end.nd rfl (by first | exact .inl rfl | exact .inr rfl)) (pgs_cons (pg_name (i := 5) sc__law_end.nd rfl (by first | exact .inl rfl | exact .inr rfl)) pgs_nil)))
    (pss_one (ps_if (PW.pt (pw_and (pt_cmpR op_ge (pv 4) (pv 3) (nomark _)) (pw_and1 (pt_cmpR (op_eqU hr.units) (pv 5) (pv 2) (nomark _)))))
    (pss_one (ps_ret (pv 4)))
    pss_nil)))
  (pss_one (ps_ret (pe_callB call_len (by rfl) z_len (by decide +kernel) (pa_cons (pe_ix (ix_U hr.units) (pv 0) pe_int (fun _ _ => rfl)) pa_nil))))))
  )]
  intro _ hNoI
  simpa using (fun (_ : NoI.Sg) => hNoI) [5]
theorem ok__law_leases {f : Addr} {fd : FuncData} (F : Fun K "_law_leases" "_law_leases" s__law_leases f fd) (z_enumerate : mg "enumerate" = none) (z_sorted : mg "sorted" = none) : FnG P WW.w K mg base CX0 1 f fd ["fleet"] (spP K C__law_leases) := by
  refine NoI.keep (fun _ wNoI => ?_) ?_
  simp only [↓ NoI.wrOf wNoI (by
  clear wNoI
  refine okG F sc__law_leases len__law_leases fun cdv A outer s H E hG hr => ⟨t__law_leases K, ?_, wp__law_leases⟩
  exact (pss_cons (ps_setLc (i := 1) (own := [("service", 2)]) rfl sc__law_leases.nd rfl rfl (sw_true rfl rfl rfl (by decide +kernel)) (pi_seq (pe_ix (ix_U hr.units) (pv 0) pe_int (fun _ _ => rfl))) (blkOk_by (own := [("service", 2)]) (N := N__law_leases) (sc := defScope s__law_leases) (by decide +kernel)) (fun _ _ _ _ _ => (pg_name (i := 2) sc__law_leases.nd rfl (by first | exact .inl rfl | exact .inr rfl))) (fun _ _ _ _ _ => pts_nil) (fun _ _ _ _ _ => (pe_tupF (pa_cons (pv 2) (pa_cons pe_int pa_nil)))))
  (pss_one (ps_ret (pe_callB (call_sortX hr) (by rfl) z_sorted (by decide +kernel) (pa_cons (pe_op op_addU (pv 1) (pe_lc (own := [("j", 3), ("service", 2)]) rfl sc__law_leases.nd (pi_enumU (by rfl) z_enumerate (pa_cons (pe_ix (ix_U hr.units) (pv 0) pe_int (fun _ _ => rfl)) pa_nil)) (blkOk_by (own := [("j", 3), ("service", 2)]) (N := N__law_leases) (sc := defScope s__law_leases) (by decide +kernel)) (fun _ _ _ _ _ => (pg_tup (by rfl) (pgs_cons (pg_name (i := 3) sc__law_leases.nd rfl (by first | exact .inl rfl | exact .inr rfl)) (pgs_cons (pg_name (i := 2) sc__law_leases.nd rfl (by first | exact .inl rfl | exact .inr rfl)) pgs_nil)))) (fun _ _ _ _ _ => pts_nil) (fun _ _ _ _ _ => (pe_tupF (pa_cons (pv 2) (pa_cons (pe_op op_addU (pv 3) pe_int) pa_nil)))))) pa_nil)))))
  )]
  intro _ hNoI
  simpa using (fun (_ : NoI.Sg) => hNoI) [5]
theorem ok__law_pins {f : Addr} {fd : FuncData} (F : Fun K "_law_pins" "_law_pins" s__law_pins f fd) (c__law_take : Cal P K mg base 1 "_law_take" ["bag", "many"] C__law_take) (c__law_some : Cal P K mg base 2 "_law_some" ["bag", "things"] C__law_some) (c__law_leases : Cal P K mg base 1 "_law_leases" ["fleet"] C__law_leases) (z_tuple : mg "tuple" = none) : FnG P WW.w K mg base CX0 3 f fd ["bag", "fleet"] (spP K C__law_pins) := by
  refine NoI.keep (fun _ wNoI => ?_) ?_
  simp only [↓ NoI.wrOf wNoI (by
  clear wNoI
  refine okG F sc__law_pins len__law_pins fun cdv A outer s H E hG hr => ⟨t__law_pins K, ?_, wp__law_pins⟩
  exact (pss_cons (ps_asg (pe_tupF (pa_cons (pe_lc (own := [("lease", 4)]) rfl sc__law_pins.nd (pi_seq (pe_callC c__law_leases hG (hr.mono (by decide)) (by rfl) (pa_cons (pv 1) pa_nil))) (blkOk_by (own := [("lease", 4)]) (N := N__law_pins) (sc := defScope s__law_pins) (by decide +kernel)) (fun _ _ _ _ _ => (pg_name (i := 4) sc__law_pins.nd rfl (by first | exact .inl rfl | exact .inr rfl))) (fun _ _ _ _ _ => (pts_one (pt_cmpR op_gt (pe_ix (ix_U hr.units) (pv 4) pe_int (fun _ _ => rfl)) pe_int (nomark _)))) (fun _ _ _ _ _ => (pv 4))) (pa_cons (pe_callC c__law_some hG (hr.mono (by decide)) (by rfl) (pa_cons (pv 0) (pa_cons (pe_lst (pa_cons pe_int (pa_cons pe_int (pa_cons pe_int (pa_cons pe_int (pa_cons pe_int pa_nil)))))) pa_nil))) pa_nil))) (pg_tup (by rfl) (pgs_cons (pg_name (i := 2) sc__law_pins.nd rfl (by first | exact .inl rfl | exact .inr rfl)) (pgs_cons (pg_name (i := 3) sc__law_pins.nd rfl (by first | exact .inl rfl | exact .inr rfl)) pgs_nil))))
  (pss_one (ps_ret (pe_callTy call_tupF (by rfl) z_tuple (by decide +kernel) (pa_cons (pe_lc (own := [("lease", 4)]) rfl sc__law_pins.nd (pi_seq (pv 2)) (blkOk_by (own := [("lease", 4)]) (N := N__law_pins) (sc := defScope s__law_pins) (by decide +kernel)) (fun _ _ _ _ _ => (pg_name (i := 4) sc__law_pins.nd rfl (by first | exact .inl rfl | exact .inr rfl))) (fun _ _ _ _ _ => (pts_one (PW.pt (pw_and (pt_cmpR op_gt (pv 3) pe_int (nomark _)) (pw_and1 (pt_cmpR (op_eqU hr.units) (pe_callC c__law_take hG (hr.mono (by decide)) (by rfl) (pa_cons (pv 0) (pa_cons (pv 3) pa_nil))) pe_int (nomark _))))))) (fun _ _ _ _ _ => (pv 4))) pa_nil)))))
  )]
  intro _ hNoI
  simpa using (fun (_ : NoI.Sg) => hNoI) [5]
theorem ok__law_stands {f : Addr} {fd : FuncData} (F : Fun K "_law_stands" "_law_stands" s__law_stands f fd) (z_dict : mg "dict" = none) (z_len : mg "len" = none) (z_range : mg "range" = none) (z_zip : mg "zip" = none) : FnG P WW.w K mg base CX0 1 f fd ["fleet", "plan"] (spP K C__law_stands) := by
  refine NoI.keep (fun _ wNoI => ?_) ?_
  simp only [↓ NoI.wrOf wNoI (by
  clear wNoI
  refine okG F sc__law_stands len__law_stands fun cdv A outer s H E hG hr => ⟨t__law_stands K, ?_, wp__law_stands⟩
  exact (pss_cons (ps_par3 (i := 2) (j := 3) (l := 4) (by rfl) sc__law_stands.nd rfl rfl rfl (by decide) (by decide) (by decide) rfl rfl rfl (pa_cons (pe_dictZip (by rfl) (by rfl) z_dict (by rfl) z_zip (pa_cons (pe_ix (ix_U hr.units) (pv 0) pe_int (fun _ _ => rfl)) (pa_cons (pe_ix (ix_U hr.units) (pv 0) pe_int (fun _ _ => rfl)) pa_nil))) (pa_cons (pe_lst pa_nil) (pa_cons (pe_lst pa_nil) pa_nil))) (by rfl))
  (pss_cons (ps_set (i := 5) sc__law_stands.nd rfl (by first | exact .inl rfl | exact .inr rfl) (pe_ix (ix_U hr.units) (pe_lc (own := [("machine", 8)]) rfl sc__law_stands.nd (pi_range1 (by rfl) z_range (pa_cons (pe_op op_addU (pe_callB call_len (by rfl) z_len (by decide +kernel) (pa_cons (pe_ix (ix_U hr.units) (pv 0) pe_int (fun _ _ => rfl)) pa_nil)) pe_int) pa_nil)) (blkOk_by (own := [("machine", 8)]) (N := N__law_stands) (sc := defScope s__law_stands) (by decide +kernel)) (fun _ _ _ _ _ => (pg_name (i := 8) sc__law_stands.nd rfl (by first | exact .inl rfl | exact .inr rfl))) (fun _ _ _ _ _ => (pts_one (pt_cmpR (op_niX hr.units) (pv 8) (pe_ix (ix_U hr.units) (pv 0) pe_int (fun _ _ => rfl)) (by with_unfolding_all rfl)))) (fun _ _ _ _ _ => (pv 8))) pe_int (fun _ _ => rfl)))
  (pss_cons (ps_for PassesOwn.never rfl (pi_range1 (by rfl) z_range (pa_cons (pe_op op_addU (pe_callB call_len (by rfl) z_len (by decide +kernel) (pa_cons (pe_ix (ix_U hr.units) (pv 0) pe_int (fun _ _ => rfl)) pa_nil)) pe_int) pa_nil)) (pg_name (i := 6) sc__law_stands.nd rfl (by first | exact .inl rfl | exact .inr rfl))
    (pss_cons (ps_expr (pe_bm PySem.F.plainAttrs_list PySem.F.slot_list_append PySem.F.type_list_append mt_append (pv 3) (pa_cons (pe_callTy call_dictC (by rfl) z_dict (by decide +kernel) (pa_cons (pv 2) pa_nil)) pa_nil)))
  (pss_cons (ps_expr (pe_bm PySem.F.plainAttrs_list PySem.F.slot_list_append PySem.F.type_list_append mt_append (pv 4) (pa_cons (pv 5) pa_nil)))
  (pss_one (ps_if (pt_cmpR (op_inX hr.units) (pv 6) (pv 1) (by with_unfolding_all rfl))
    (pss_cons (ps_set (i := 7) sc__law_stands.nd rfl (by first | exact .inl rfl | exact .inr rfl) (pe_ix (ix_U hr.units) (pe_ix (ix_U hr.units) (pv 0) pe_int (fun _ _ => rfl)) (pv 6) (fun _ _ => rfl)))
  (pss_one (ps_asg (pe_tupF (pa_cons (pv 5) (pa_cons (pe_ix (ix_U hr.units) (pv 2) (pv 7) (fun _ _ => rfl)) pa_nil))) (pg_tup (by rfl) (pgs_cons (pg_sub (pv 2) (pv 7) (set_U hr.units)) (pgs_cons (pg_name (i := 5) sc__law_stands.nd rfl (by first | exact .inl rfl | exact .inr rfl)) pgs_nil))))))
    pss_nil)))))
  (pss_one (ps_ret (pe_tupF (pa_cons (pv 3) (pa_cons (pv 4) pa_nil))))))))
  )]
  intro _ hNoI
  simpa using (fun (_ : NoI.Sg) => hNoI) [5]
theorem ok__law_wide {f : Addr} {fd : FuncData} (F : Fun K "_law_wide" "_law_wide" s__law_wide f fd) (c__law_some : Cal P K mg base 2 "_law_some" ["bag", "things"] C__law_some) (c__law_fleet : Cal P K mg base 4 "_law_fleet" ["bag", "many", "most"] C__law_fleet) : FnG P WW.w K mg base CX0 5 f fd ["bag"] (spP K C__law_wide) := by
  refine NoI.keep (fun _ wNoI => ?_) ?_
  simp only [↓ NoI.wrOf wNoI (by
  clear wNoI
  refine okG F sc__law_wide len__law_wide fun cdv A outer s H E hG hr => ⟨t__law_wide K, ?_, wp__law_wide⟩
  exact (pss_one (ps_ret (pe_callC c__law_fleet hG (hr.mono (by decide)) (by rfl) (pa_cons (pv 0) (pa_cons (pe_callC c__law_some hG (hr.mono (by decide)) (by rfl) (pa_cons (pv 0) (pa_cons (pe_lst (pa_cons pe_int (pa_cons pe_int (pa_cons pe_int (pa_cons pe_int pa_nil))))) pa_nil))) (pa_cons (pe_callC c__law_some hG (hr.mono (by decide)) (by rfl) (pa_cons (pv 0) (pa_cons (pe_lst (pa_cons pe_int (pa_cons pe_int (pa_cons pe_int pa_nil)))) pa_nil))) pa_nil))))))
  )]
  intro _ hNoI
  simpa using (fun (_ : NoI.Sg) => hNoI) [5]
theorem ok__law_near {f : Addr} {fd : FuncData} (F : Fun K "_law_near" "_law_near" s__law_near f fd) (c__law_end : Cal P K mg base 1 "_law_end" ["fleet", "lease"] C__law_end) (c__law_leases : Cal P K mg base 1 "_law_leases" ["fleet"] C__law_leases) (c__law_stands : Cal P K mg base 1 "_law_stands" ["fleet", "plan"] C__law_stands) (c__law_exchanged : Cal P K mg base 2 "_law_exchanged" ["fleet", "plan", "lease"] C__law_exchanged) (z_len : mg "len" = none) : FnG P WW.w K mg base CX0 3 f fd ["fleet", "plan", "pins"] (spP K C__law_near) := by
  refine NoI.keep (fun _ wNoI => ?_) ?_
  simp only [↓ NoI.wrOf wNoI (by
  clear wNoI
  refine okG F sc__law_near len__law_near fun cdv A outer s H E hG hr => ⟨t__law_near K, ?_, wp__law_near⟩
  exact (pss_cons (ps_par (i := 3) (j := 4) (by rfl) sc__law_near.nd rfl rfl (by decide) rfl rfl (pa_cons (pe_ix (ix_U hr.units) (pe_callC c__law_stands hG (hr.mono (by decide)) (by rfl) (pa_cons (pv 0) (pa_cons (pv 1) pa_nil))) pe_int (fun _ _ => rfl)) (pa_cons (pe_lst pa_nil) pa_nil)) (by rfl))
  (pss_cons (ps_for PassesOwn.never rfl (pi_seq (pe_callC c__law_leases hG (hr.mono (by decide)) (by rfl) (pa_cons (pv 0) pa_nil))) (pg_name (i := 5) sc__law_near.nd rfl (by first | exact .inl rfl | exact .inr rfl))
    (pss_cons (ps_set (i := 6) sc__law_near.nd rfl (by first | exact .inl rfl | exact .inr rfl) (pe_slice sl_U (pv 3) (po_some (pe_ix (ix_U hr.units) (pv 5) pe_int (fun _ _ => rfl))) (po_some (pe_op op_addU (pe_callC c__law_end hG (hr.mono (by decide)) (by rfl) (pa_cons (pv 0) (pa_cons (pv 5) pa_nil))) pe_int))))
  (pss_one (ps_if (PW.pt (pw_and (pt_cmpR op_gt (pe_ix (ix_U hr.units) (pv 5) pe_int (fun _ _ => rfl)) pe_int (nomark _)) (pw_and (pt_cmpR (op_niX hr.units) (pv 5) (pv 2) (by with_unfolding_all rfl)) (pw_and1 (pt_cmpR (op_eqU hr.units) (pv 6) (pe_op op_mulX (pe_slice sl_U (pv 6) po_none (po_some pe_int)) (pe_callB call_len (by rfl) z_len (by decide +kernel) (pa_cons (pv 6) pa_nil))) (nomark _))))))
    (pss_one (ps_expr (pe_bm PySem.F.plainAttrs_list PySem.F.slot_list_append PySem.F.type_list_append mt_append (pv 4) (pa_cons (pe_tupF (pa_cons (pv 5) (pa_cons (pe_callC c__law_exchanged hG (hr.mono (by decide)) (by rfl) (pa_cons (pv 0) (pa_cons (pv 1) (pa_cons (pv 5) pa_nil)))) pa_nil))) pa_nil))))
    pss_nil))))
  (pss_one (ps_ret (pv 4)))))
  )]
  intro _ hNoI
  simpa using (fun (_ : NoI.Sg) => hNoI) [5]
theorem ok__law_cut_fleet {f : Addr} {fd : FuncData} (F : Fun K "_law_cut_fleet" "_law_cut_fleet" s__law_cut_fleet f fd) (c__law_fleet : Cal P K mg base 4 "_law_fleet" ["bag", "many", "most"] C__law_fleet) : FnG P WW.w K mg base CX0 5 f fd ["bag", "many", "most"] (spP K C__law_cut_fleet) := by
  refine NoI.keep (fun _ wNoI => ?_) ?_
  simp only [↓ NoI.wrOf wNoI (by
  clear wNoI
  refine okG F sc__law_cut_fleet len__law_cut_fleet fun cdv A outer s H E hG hr => ⟨t__law_cut_fleet K, ?_, wp__law_cut_fleet⟩
  exact (pss_cons (ps_asg (pe_callC c__law_fleet hG (hr.mono (by decide)) (by rfl) (pa_cons (pv 0) (pa_cons (pv 1) (pa_cons (pe_op op_mulX pe_int (pv 2)) pa_nil)))) (pg_tup (by rfl) (pgs_cons (pg_name (i := 3) sc__law_cut_fleet.nd rfl (by first | exact .inl rfl | exact .inr rfl)) (pgs_cons (pg_name (i := 4) sc__law_cut_fleet.nd rfl (by first | exact .inl rfl | exact .inr rfl)) (pgs_cons (pg_name (i := 5) sc__law_cut_fleet.nd rfl (by first | exact .inl rfl | exact .inr rfl)) pgs_nil)))))
  (pss_one (ps_ret (pe_tupF (pa_cons (pv 3) (pa_cons (pv 4) (pa_cons (pe_slice sl_U (pv 5) po_none (po_some (pv 2))) pa_nil)))))))
  )]
  intro _ hNoI
  simpa using (fun (_ : NoI.Sg) => hNoI) [5]
theorem ok__law_middle {f : Addr} {fd : FuncData} (F : Fun K "_law_middle" "_law_middle" s__law_middle f fd) (c__law_some : Cal P K mg base 2 "_law_some" ["bag", "things"] C__law_some) (c__law_cut_fleet : Cal P K mg base 5 "_law_cut_fleet" ["bag", "many", "most"] C__law_cut_fleet) : FnG P WW.w K mg base CX0 6 f fd ["bag"] (spP K C__law_middle) := by
  refine NoI.keep (fun _ wNoI => ?_) ?_
  simp only [↓ NoI.wrOf wNoI (by
  clear wNoI
  refine okG F sc__law_middle len__law_middle fun cdv A outer s H E hG hr => ⟨t__law_middle K, ?_, wp__law_middle⟩
  exact (pss_one (ps_ret (pe_callC c__law_cut_fleet hG (hr.mono (by decide)) (by rfl) (pa_cons (pv 0) (pa_cons (pe_callC c__law_some hG (hr.mono (by decide)) (by rfl) (pa_cons (pv 0) (pa_cons (pe_lst (pa_cons pe_int (pa_cons pe_int (pa_cons pe_int (pa_cons pe_int (pa_cons pe_int pa_nil)))))) pa_nil))) (pa_cons (pe_callC c__law_some hG (hr.mono (by decide)) (by rfl) (pa_cons (pv 0) (pa_cons (pe_lst (pa_cons pe_int (pa_cons pe_int (pa_cons pe_int pa_nil)))) pa_nil))) pa_nil))))))
  )]
  intro _ hNoI
  simpa using (fun (_ : NoI.Sg) => hNoI) [5]
theorem ok__law_exchanged {f : Addr} {fd : FuncData} (F : Fun K "_law_exchanged" "_law_exchanged" s__law_exchanged f fd) (c__law_end : Cal P K mg base 1 "_law_end" ["fleet", "lease"] C__law_end) (z_int : mg "int" = none) (z_len : mg "len" = none) (z_sorted : mg "sorted" = none) (z_tuple : mg "tuple" = none) : FnG P WW.w K mg base CX0 2 f fd ["fleet", "plan", "lease"] (spP K C__law_exchanged) := by
  refine NoI.keep (fun _ wNoI => ?_) ?_
  simp only [↓ NoI.wrOf wNoI (by
  clear wNoI
  refine okG F sc__law_exchanged len__law_exchanged fun cdv A outer s H E hG hr => ⟨t__law_exchanged K, ?_, wp__law_exchanged⟩
  exact (pss_cons (ps_set (i := 3) sc__law_exchanged.nd rfl (by first | exact .inl rfl | exact .inr rfl) (pe_callC c__law_end hG (hr.mono (by decide)) (by rfl) (pa_cons (pv 0) (pa_cons (pv 2) pa_nil))))
  (pss_cons (ps_set (i := 4) sc__law_exchanged.nd rfl (by first | exact .inl rfl | exact .inr rfl) (pe_op op_addU (pe_lst (pa_cons (pe_op op_sub (pe_ix (ix_U hr.units) (pv 2) pe_int (fun _ _ => rfl)) pe_int) pa_nil)) (pe_op op_mulX (pe_lst (pa_cons (pv 3) pa_nil)) (pe_callTy call_int1 (by rfl) z_int (by decide +kernel) (pa_cons (pe_cmpR op_lt (pv 3) (pe_callB call_len (by rfl) z_len (by decide +kernel) (pa_cons (pe_ix (ix_U hr.units) (pv 0) pe_int (fun _ _ => rfl)) pa_nil)) (nomark _)) pa_nil)))))
  (pss_one (ps_ret (pe_callTy call_tupF (by rfl) z_tuple (by decide +kernel) (pa_cons (pe_callB (call_sortX hr) (by rfl) z_sorted (by decide +kernel) (pa_cons (pe_op op_addU (pe_lc (own := [("j", 5)]) rfl sc__law_exchanged.nd (pi_seq (pv 1)) (blkOk_by (own := [("j", 5)]) (N := N__law_exchanged) (sc := defScope s__law_exchanged) (by decide +kernel)) (fun _ _ _ _ _ => (pg_name (i := 5) sc__law_exchanged.nd rfl (by first | exact .inl rfl | exact .inr rfl))) (fun _ _ _ _ _ => (pts_one (pt_cmpR (op_niX hr.units) (pv 5) (pv 4) (by with_unfolding_all rfl)))) (fun _ _ _ _ _ => (pv 5))) (pe_lc (own := [("j", 5)]) rfl sc__law_exchanged.nd (pi_seq (pv 4)) (blkOk_by (own := [("j", 5)]) (N := N__law_exchanged) (sc := defScope s__law_exchanged) (by decide +kernel)) (fun _ _ _ _ _ => (pg_name (i := 5) sc__law_exchanged.nd rfl (by first | exact .inl rfl | exact .inr rfl))) (fun _ _ _ _ _ => (pts_one (pt_cmpR (op_niX hr.units) (pv 5) (pv 1) (by with_unfolding_all rfl)))) (fun _ _ _ _ _ => (pv 5)))) pa_nil)) pa_nil))))))
  )]
  intro _ hNoI
  simpa using (fun (_ : NoI.Sg) => hNoI) [5]
theorem ok_law {f : Addr} {fd : FuncData} (F : Fun K "law" "law" s_law f fd) (c_aparts : Cal P K mg base 5 "aparts" ["fleet", "one", "other"] C_aparts) (c_distance : Cal P K mg base 5 "distance" ["fleet", "one", "other"] C_distance) (c__law_bag : Cal P K mg base 1 "_law_bag" ["script"] C__law_bag) (c__law_take : Cal P K mg base 1 "_law_take" ["bag", "many"] C__law_take) (c__law_some : Cal P K mg base 2 "_law_some" ["bag", "things"] C__law_some) (c__law_alike : Cal P K mg base 1 "_law_alike" ["found", "due"] C__law_alike) (c__law_plan : Cal P K mg base 3 "_law_plan" ["bag", "fleet"] C__law_plan) (c__law_pins : Cal P K mg base 3 "_law_pins" ["bag", "fleet"] C__law_pins) (c__law_wide : Cal P K mg base 5 "_law_wide" ["bag"] C__law_wide) (c__law_near : Cal P K mg base 3 "_law_near" ["fleet", "plan", "pins"] C__law_near) (c__law_middle : Cal P K mg base 6 "_law_middle" ["bag"] C__law_middle) (z_abs : mg "abs" = none) (z_list : mg "list" = none) (z_range : mg "range" = none) (z_set : mg "set" = none) (z_sorted : mg "sorted" = none) (z_sum : mg "sum" = none) (z_zip : mg "zip" = none) : FnG P WW.w K mg base CX0 7 f fd ["script"] (spP K C_law) := by
  refine NoI.keep (fun _ wNoI => ?_) ?_
  simp only [↓ NoI.wrOf wNoI (by
  clear wNoI
  refine okG F sc_law len_law fun cdv A outer s H E hG hr => ⟨t_law_k25 K, ?_, wp_law_k25⟩
  exact (pss_cons (ps_set (i := 1) sc_law.nd rfl (by first | exact .inl rfl | exact .inr rfl) (pe_callC c__law_bag hG (hr.mono (by decide)) (by rfl) (pa_cons (pv 0) pa_nil)))
  (pss_cons (ps_set (i := 2) sc_law.nd rfl (by first | exact .inl rfl | exact .inr rfl) (pe_cmpR (op_eqU hr.units) (pe_callC c__law_take hG (hr.mono (by decide)) (by rfl) (pa_cons (pv 1) (pa_cons pe_int pa_nil))) pe_int (nomark _)))
  (pss_cons (ps_set (i := 3) sc_law.nd rfl (by first | exact .inl rfl | exact .inr rfl) (pe_ifExp (pt_tru (pv 2)) (pe_callC c__law_wide hG (hr.mono (by decide)) (by rfl) (pa_cons (pv 1) pa_nil)) (pe_callC c__law_middle hG (hr.mono (by decide)) (by rfl) (pa_cons (pv 1) pa_nil))))
  (pss_cons (ps_asg (pe_tupF (pa_cons (pe_callC c__law_pins hG (hr.mono (by decide)) (by rfl) (pa_cons (pv 1) (pa_cons (pv 3) pa_nil))) (pa_cons (pe_callC c__law_plan hG (hr.mono (by decide)) (by rfl) (pa_cons (pv 1) (pa_cons (pv 3) pa_nil))) pa_nil))) (pg_tup (by rfl) (pgs_cons (pg_name (i := 4) sc_law.nd rfl (by first | exact .inl rfl | exact .inr rfl)) (pgs_cons (pg_name (i := 5) sc_law.nd rfl (by first | exact .inl rfl | exact .inr rfl)) pgs_nil))))
  (pss_cons (ps_set (i := 6) sc_law.nd rfl (by first | exact .inl rfl | exact .inr rfl) (pe_lst (pa_cons (pe_callC c__law_plan hG (hr.mono (by decide)) (by rfl) (pa_cons (pv 1) (pa_cons (pv 3) pa_nil))) (pa_cons (pe_callC c__law_some hG (hr.mono (by decide)) (by rfl) (pa_cons (pv 1) (pa_cons (pe_lst (pa_cons (pv 5) (pa_cons (pe_tupF pa_nil) (pa_cons (pe_callC c__law_plan hG (hr.mono (by decide)) (by rfl) (pa_cons (pv 1) (pa_cons (pv 3) pa_nil))) pa_nil)))) pa_nil))) pa_nil))))
  (pss_cons (ps_setLc (i := 7) (own := [("other", 15)]) rfl sc_law.nd rfl rfl (sw_true rfl rfl rfl (by decide +kernel)) (pi_seq (pv 6)) (blkOk_by (own := [("other", 15)]) (N := N_law) (sc := defScope s_law) (by decide +kernel)) (fun _ _ _ _ _ => (pg_name (i := 15) sc_law.nd rfl (by first | exact .inl rfl | exact .inr rfl))) (fun _ _ _ _ _ => pts_nil) (fun _ _ _ _ _ => (pe_callC c_aparts hG (hr.mono (by decide)) (by rfl) (pa_cons (pv 3) (pa_cons (pv 5) (pa_cons (pv 15) pa_nil))))))
  (pss_cons (ps_for PassesOwn.never rfl (pi_range1 (by rfl) z_range (pa_cons (pe_ifExp (pt_tru (pv 2)) (pe_callC c__law_some hG (hr.mono (by decide)) (by rfl) (pa_cons (pv 1) (pa_cons (pe_lst (pa_cons pe_int (pa_cons pe_int pa_nil))) pa_nil))) (pe_callC c__law_some hG (hr.mono (by decide)) (by rfl) (pa_cons (pv 1) (pa_cons (pe_lst (pa_cons pe_int (pa_cons pe_int (pa_cons pe_int pa_nil)))) pa_nil)))) pa_nil)) (pg_name (i := 8) sc_law.nd rfl (by first | exact .inl rfl | exact .inr rfl))
    (pss_cons (ps_set (i := 9) sc_law.nd rfl (by first | exact .inl rfl | exact .inr rfl) (pe_callC c__law_near hG (hr.mono (by decide)) (by rfl) (pa_cons (pv 3) (pa_cons (pv 5) (pa_cons (pv 4) pa_nil)))))
  (pss_cons (ps_if (pt_cmpR (op_eqU hr.units) (pv 9) (pe_lst pa_nil) (nomark _))
    (pss_one (ps_ret pe_bl))
    pss_nil)
  (pss_cons (ps_asg (pe_callC c__law_some hG (hr.mono (by decide)) (by rfl) (pa_cons (pv 1) (pa_cons (pv 9) pa_nil))) (pg_tup (by rfl) (pgs_cons (pg_name (i := 10) sc_law.nd rfl (by first | exact .inl rfl | exact .inr rfl)) (pgs_cons (pg_name (i := 11) sc_law.nd rfl (by first | exact .inl rfl | exact .inr rfl)) pgs_nil))))
  (pss_cons (ps_setLc (i := 12) (own := [("other", 15)]) rfl sc_law.nd rfl rfl (sw_true rfl rfl rfl (by decide +kernel)) (pi_seq (pv 6)) (blkOk_by (own := [("other", 15)]) (N := N_law) (sc := defScope s_law) (by decide +kernel)) (fun _ _ _ _ _ => (pg_name (i := 15) sc_law.nd rfl (by first | exact .inl rfl | exact .inr rfl))) (fun _ _ _ _ _ => pts_nil) (fun _ _ _ _ _ => (pe_callC c_aparts hG (hr.mono (by decide)) (by rfl) (pa_cons (pv 3) (pa_cons (pv 11) (pa_cons (pv 15) pa_nil))))))
  (pss_cons (ps_for PassesOwn.never rfl (pi_zip3 (by rfl) z_zip (pa_cons (pv 7) (pa_cons (pv 12) (pa_cons (pv 6) pa_nil)))) (pg_tup (by rfl) (pgs_cons (pg_name (i := 13) sc_law.nd rfl (by first | exact .inl rfl | exact .inr rfl)) (pgs_cons (pg_name (i := 14) sc_law.nd rfl (by first | exact .inl rfl | exact .inr rfl)) (pgs_cons (pg_name (i := 15) sc_law.nd rfl (by first | exact .inl rfl | exact .inr rfl)) pgs_nil))))
    (pss_cons (ps_for PassesOwn.never rfl (pi_seq (pe_sortSetK hr (by rfl) z_sorted (by rfl) z_set (pe_op op_addU (pe_listD (by rfl) (by rfl) z_list (pv 13)) (pe_listD (by rfl) (by rfl) z_list (pv 14))))) (pg_name (i := 16) sc_law.nd rfl (by first | exact .inl rfl | exact .inr rfl))
    (pss_one (ps_if (PW.pt (pw_and (pt_cmpR (op_neU hr.units) (pv 16) (pv 10) (nomark _)) (pw_and1 (pt_cmpR (op_neU hr.units) (pe_dgX hr.units (pv 13) (pv 16) pe_int ⟨by rfl, by rfl, by rfl, by rfl⟩) (pe_dgX hr.units (pv 14) (pv 16) pe_int ⟨by rfl, by rfl, by rfl, by rfl⟩) (nomark _)))))
    (pss_one (ps_ret pe_bl))
    pss_nil)))
  (pss_one (ps_if (PW.pt (pw_or (pt_cmpR (op_neU hr.units) (pe_callB call_abs (by rfl) z_abs (by decide +kernel) (pa_cons (pe_op op_sub (pe_dgX hr.units (pv 13) (pv 10) pe_int ⟨by rfl, by rfl, by rfl, by rfl⟩) (pe_dgX hr.units (pv 14) (pv 10) pe_int ⟨by rfl, by rfl, by rfl, by rfl⟩)) pa_nil)) pe_int (nomark _)) (pw_or1 (pt_cmpR (op_neU hr.units) (pe_callC c_distance hG (hr.mono (by decide)) (by rfl) (pa_cons (pv 3) (pa_cons (pv 11) (pa_cons (pv 15) pa_nil)))) (pe_sumV rfl (by rfl) z_sum (pv 14)) (nomark _)))))
    (pss_one (ps_ret pe_bl))
    pss_nil))))
  (pss_cons (ps_if (pt_not (pt_tru (pe_callC c__law_alike hG (hr.mono (by decide)) (by rfl) (pa_cons (pe_callC c_aparts hG (hr.mono (by decide)) (by rfl) (pa_cons (pv 3) (pa_cons (pv 5) (pa_cons (pv 11) pa_nil)))) (pa_cons (pe_disp1 hr.units (pv 10) pe_int) pa_nil)))))
    (pss_one (ps_ret pe_bl))
    pss_nil)
  (pss_one (ps_asg (pe_tupF (pa_cons (pv 11) (pa_cons (pv 12) pa_nil))) (pg_tup (by rfl) (pgs_cons (pg_name (i := 5) sc_law.nd rfl (by first | exact .inl rfl | exact .inr rfl)) (pgs_cons (pg_name (i := 7) sc_law.nd rfl (by first | exact .inl rfl | exact .inr rfl)) pgs_nil))))))))))))
  (pss_one (ps_ret pe_bl)))))))))
  )]
  intro _ hNoI
  simpa using (fun (_ : NoI.Sg) => hNoI) [5]
end
set_option maxHeartbeats 0 in
theorem all_mk [ww : WW] {l : PySem.W.OpenLaw} {K : PySem.W.Frag} {h : Heap} {mg : Str → Option Value} {fa : Addr} (X : K.In h) (G : h.Ns mainGlobals mg) (hfa : mg "law" = some (.ref fa))
    {f0 : Addr} {od0 an0 : Option Addr} {sl0 : Array (Option Value)} {oc0 kV0 dc0 pm0 cd0 ct0 : Value}
    (a0 : PySem.W.nsIn K mainGlobals "size" = some (some (.ref f0))) (l0 : K.lookup f0 = some ⟨oc0, od0, .func (PySem.W.fnOf "size" "size" (defArgs s_size) (defBody s_size) (defScope s_size) .none kV0 dc0 pm0 an0 cd0 ct0), sl0⟩) (d0 : PySem.W.codeIn K cd0 "size" = true) (k0 : PySem.W.keepIn K (.ref f0) = true)
    {f1 : Addr} {od1 an1 : Option Addr} {sl1 : Array (Option Value)} {oc1 kV1 dc1 pm1 cd1 ct1 : Value}
    (a1 : PySem.W.nsIn K mainGlobals "restarts_of" = some (some (.ref f1))) (l1 : K.lookup f1 = some ⟨oc1, od1, .func (PySem.W.fnOf "restarts_of" "restarts_of" (defArgs s_restarts_of) (defBody s_restarts_of) (defScope s_restarts_of) .none kV1 dc1 pm1 an1 cd1 ct1), sl1⟩) (d1 : PySem.W.codeIn K cd1 "restarts_of" = true) (k1 : PySem.W.keepIn K (.ref f1) = true)
    {f2 : Addr} {od2 an2 : Option Addr} {sl2 : Array (Option Value)} {oc2 kV2 dc2 pm2 cd2 ct2 : Value}
    (a2 : PySem.W.nsIn K mainGlobals "leases_of" = some (some (.ref f2))) (l2 : K.lookup f2 = some ⟨oc2, od2, .func (PySem.W.fnOf "leases_of" "leases_of" (defArgs s_leases_of) (defBody s_leases_of) (defScope s_leases_of) .none kV2 dc2 pm2 an2 cd2 ct2), sl2⟩) (d2 : PySem.W.codeIn K cd2 "leases_of" = true) (k2 : PySem.W.keepIn K (.ref f2) = true)
    {f3 : Addr} {od3 an3 : Option Addr} {sl3 : Array (Option Value)} {oc3 kV3 dc3 pm3 cd3 ct3 : Value}
    (a3 : PySem.W.nsIn K mainGlobals "hopping_before" = some (some (.ref f3))) (l3 : K.lookup f3 = some ⟨oc3, od3, .func (PySem.W.fnOf "hopping_before" "hopping_before" (defArgs s_hopping_before) (defBody s_hopping_before) (defScope s_hopping_before) .none kV3 dc3 pm3 an3 cd3 ct3), sl3⟩) (d3 : PySem.W.codeIn K cd3 "hopping_before" = true) (k3 : PySem.W.keepIn K (.ref f3) = true)
    {f4 : Addr} {od4 an4 : Option Addr} {sl4 : Array (Option Value)} {oc4 kV4 dc4 pm4 cd4 ct4 : Value}
    (a4 : PySem.W.nsIn K mainGlobals "reduced" = some (some (.ref f4))) (l4 : K.lookup f4 = some ⟨oc4, od4, .func (PySem.W.fnOf "reduced" "reduced" (defArgs s_reduced) (defBody s_reduced) (defScope s_reduced) .none kV4 dc4 pm4 an4 cd4 ct4), sl4⟩) (d4 : PySem.W.codeIn K cd4 "reduced" = true) (k4 : PySem.W.keepIn K (.ref f4) = true)
    {f5 : Addr} {od5 an5 : Option Addr} {sl5 : Array (Option Value)} {oc5 kV5 dc5 pm5 cd5 ct5 : Value}
    (a5 : PySem.W.nsIn K mainGlobals "joined" = some (some (.ref f5))) (l5 : K.lookup f5 = some ⟨oc5, od5, .func (PySem.W.fnOf "joined" "joined" (defArgs s_joined) (defBody s_joined) (defScope s_joined) .none kV5 dc5 pm5 an5 cd5 ct5), sl5⟩) (d5 : PySem.W.codeIn K cd5 "joined" = true) (k5 : PySem.W.keepIn K (.ref f5) = true)
    {f6 : Addr} {od6 an6 : Option Addr} {sl6 : Array (Option Value)} {oc6 kV6 dc6 pm6 cd6 ct6 : Value}
    (a6 : PySem.W.nsIn K mainGlobals "inverse" = some (some (.ref f6))) (l6 : K.lookup f6 = some ⟨oc6, od6, .func (PySem.W.fnOf "inverse" "inverse" (defArgs s_inverse) (defBody s_inverse) (defScope s_inverse) .none kV6 dc6 pm6 an6 cd6 ct6), sl6⟩) (d6 : PySem.W.codeIn K cd6 "inverse" = true) (k6 : PySem.W.keepIn K (.ref f6) = true)
    {f7 : Addr} {od7 an7 : Option Addr} {sl7 : Array (Option Value)} {oc7 kV7 dc7 pm7 cd7 ct7 : Value}
    (a7 : PySem.W.nsIn K mainGlobals "walk" = some (some (.ref f7))) (l7 : K.lookup f7 = some ⟨oc7, od7, .func (PySem.W.fnOf "walk" "walk" (defArgs s_walk) (defBody s_walk) (defScope s_walk) .none kV7 dc7 pm7 an7 cd7 ct7), sl7⟩) (d7 : PySem.W.codeIn K cd7 "walk" = true) (k7 : PySem.W.keepIn K (.ref f7) = true)
    {f8 : Addr} {od8 an8 : Option Addr} {sl8 : Array (Option Value)} {oc8 kV8 dc8 pm8 cd8 ct8 : Value}
    (a8 : PySem.W.nsIn K mainGlobals "vertex_in" = some (some (.ref f8))) (l8 : K.lookup f8 = some ⟨oc8, od8, .func (PySem.W.fnOf "vertex_in" "vertex_in" (defArgs s_vertex_in) (defBody s_vertex_in) (defScope s_vertex_in) .none kV8 dc8 pm8 an8 cd8 ct8), sl8⟩) (d8 : PySem.W.codeIn K cd8 "vertex_in" = true) (k8 : PySem.W.keepIn K (.ref f8) = true)
    {f9 : Addr} {od9 an9 : Option Addr} {sl9 : Array (Option Value)} {oc9 kV9 dc9 pm9 cd9 ct9 : Value}
    (a9 : PySem.W.nsIn K mainGlobals "apart" = some (some (.ref f9))) (l9 : K.lookup f9 = some ⟨oc9, od9, .func (PySem.W.fnOf "apart" "apart" (defArgs s_apart) (defBody s_apart) (defScope s_apart) .none kV9 dc9 pm9 an9 cd9 ct9), sl9⟩) (d9 : PySem.W.codeIn K cd9 "apart" = true) (k9 : PySem.W.keepIn K (.ref f9) = true)
    {f10 : Addr} {od10 an10 : Option Addr} {sl10 : Array (Option Value)} {oc10 kV10 dc10 pm10 cd10 ct10 : Value}
    (a10 : PySem.W.nsIn K mainGlobals "aparts" = some (some (.ref f10))) (l10 : K.lookup f10 = some ⟨oc10, od10, .func (PySem.W.fnOf "aparts" "aparts" (defArgs s_aparts) (defBody s_aparts) (defScope s_aparts) .none kV10 dc10 pm10 an10 cd10 ct10), sl10⟩) (d10 : PySem.W.codeIn K cd10 "aparts" = true) (k10 : PySem.W.keepIn K (.ref f10) = true)
    {f11 : Addr} {od11 an11 : Option Addr} {sl11 : Array (Option Value)} {oc11 kV11 dc11 pm11 cd11 ct11 : Value}
    (a11 : PySem.W.nsIn K mainGlobals "distance" = some (some (.ref f11))) (l11 : K.lookup f11 = some ⟨oc11, od11, .func (PySem.W.fnOf "distance" "distance" (defArgs s_distance) (defBody s_distance) (defScope s_distance) .none kV11 dc11 pm11 an11 cd11 ct11), sl11⟩) (d11 : PySem.W.codeIn K cd11 "distance" = true) (k11 : PySem.W.keepIn K (.ref f11) = true)
    {f12 : Addr} {od12 an12 : Option Addr} {sl12 : Array (Option Value)} {oc12 kV12 dc12 pm12 cd12 ct12 : Value}
    (a12 : PySem.W.nsIn K mainGlobals "_law_bag" = some (some (.ref f12))) (l12 : K.lookup f12 = some ⟨oc12, od12, .func (PySem.W.fnOf "_law_bag" "_law_bag" (defArgs s__law_bag) (defBody s__law_bag) (defScope s__law_bag) .none kV12 dc12 pm12 an12 cd12 ct12), sl12⟩) (d12 : PySem.W.codeIn K cd12 "_law_bag" = true) (k12 : PySem.W.keepIn K (.ref f12) = true)
    {f13 : Addr} {od13 an13 : Option Addr} {sl13 : Array (Option Value)} {oc13 kV13 dc13 pm13 cd13 ct13 : Value}
    (a13 : PySem.W.nsIn K mainGlobals "_law_take" = some (some (.ref f13))) (l13 : K.lookup f13 = some ⟨oc13, od13, .func (PySem.W.fnOf "_law_take" "_law_take" (defArgs s__law_take) (defBody s__law_take) (defScope s__law_take) .none kV13 dc13 pm13 an13 cd13 ct13), sl13⟩) (d13 : PySem.W.codeIn K cd13 "_law_take" = true) (k13 : PySem.W.keepIn K (.ref f13) = true)
    {f14 : Addr} {od14 an14 : Option Addr} {sl14 : Array (Option Value)} {oc14 kV14 dc14 pm14 cd14 ct14 : Value}
    (a14 : PySem.W.nsIn K mainGlobals "_law_some" = some (some (.ref f14))) (l14 : K.lookup f14 = some ⟨oc14, od14, .func (PySem.W.fnOf "_law_some" "_law_some" (defArgs s__law_some) (defBody s__law_some) (defScope s__law_some) .none kV14 dc14 pm14 an14 cd14 ct14), sl14⟩) (d14 : PySem.W.codeIn K cd14 "_law_some" = true) (k14 : PySem.W.keepIn K (.ref f14) = true)
    {f15 : Addr} {od15 an15 : Option Addr} {sl15 : Array (Option Value)} {oc15 kV15 dc15 pm15 cd15 ct15 : Value}
    (a15 : PySem.W.nsIn K mainGlobals "_law_mixed" = some (some (.ref f15))) (l15 : K.lookup f15 = some ⟨oc15, od15, .func (PySem.W.fnOf "_law_mixed" "_law_mixed" (defArgs s__law_mixed) (defBody s__law_mixed) (defScope s__law_mixed) .none kV15 dc15 pm15 an15 cd15 ct15), sl15⟩) (d15 : PySem.W.codeIn K cd15 "_law_mixed" = true) (k15 : PySem.W.keepIn K (.ref f15) = true)
    {f16 : Addr} {od16 an16 : Option Addr} {sl16 : Array (Option Value)} {oc16 kV16 dc16 pm16 cd16 ct16 : Value}
    (a16 : PySem.W.nsIn K mainGlobals "_law_alike" = some (some (.ref f16))) (l16 : K.lookup f16 = some ⟨oc16, od16, .func (PySem.W.fnOf "_law_alike" "_law_alike" (defArgs s__law_alike) (defBody s__law_alike) (defScope s__law_alike) .none kV16 dc16 pm16 an16 cd16 ct16), sl16⟩) (d16 : PySem.W.codeIn K cd16 "_law_alike" = true) (k16 : PySem.W.keepIn K (.ref f16) = true)
    {f17 : Addr} {od17 an17 : Option Addr} {sl17 : Array (Option Value)} {oc17 kV17 dc17 pm17 cd17 ct17 : Value}
    (a17 : PySem.W.nsIn K mainGlobals "_law_names" = some (some (.ref f17))) (l17 : K.lookup f17 = some ⟨oc17, od17, .func (PySem.W.fnOf "_law_names" "_law_names" (defArgs s__law_names) (defBody s__law_names) (defScope s__law_names) .none kV17 dc17 pm17 an17 cd17 ct17), sl17⟩) (d17 : PySem.W.codeIn K cd17 "_law_names" = true) (k17 : PySem.W.keepIn K (.ref f17) = true)
    {f18 : Addr} {od18 an18 : Option Addr} {sl18 : Array (Option Value)} {oc18 kV18 dc18 pm18 cd18 ct18 : Value}
    (a18 : PySem.W.nsIn K mainGlobals "_law_fleet" = some (some (.ref f18))) (l18 : K.lookup f18 = some ⟨oc18, od18, .func (PySem.W.fnOf "_law_fleet" "_law_fleet" (defArgs s__law_fleet) (defBody s__law_fleet) (defScope s__law_fleet) .none kV18 dc18 pm18 an18 cd18 ct18), sl18⟩) (d18 : PySem.W.codeIn K cd18 "_law_fleet" = true) (k18 : PySem.W.keepIn K (.ref f18) = true)
    {f19 : Addr} {od19 an19 : Option Addr} {sl19 : Array (Option Value)} {oc19 kV19 dc19 pm19 cd19 ct19 : Value}
    (a19 : PySem.W.nsIn K mainGlobals "_law_plan" = some (some (.ref f19))) (l19 : K.lookup f19 = some ⟨oc19, od19, .func (PySem.W.fnOf "_law_plan" "_law_plan" (defArgs s__law_plan) (defBody s__law_plan) (defScope s__law_plan) .none kV19 dc19 pm19 an19 cd19 ct19), sl19⟩) (d19 : PySem.W.codeIn K cd19 "_law_plan" = true) (k19 : PySem.W.keepIn K (.ref f19) = true)
    {f20 : Addr} {od20 an20 : Option Addr} {sl20 : Array (Option Value)} {oc20 kV20 dc20 pm20 cd20 ct20 : Value}
    (a20 : PySem.W.nsIn K mainGlobals "_law_end" = some (some (.ref f20))) (l20 : K.lookup f20 = some ⟨oc20, od20, .func (PySem.W.fnOf "_law_end" "_law_end" (defArgs s__law_end) (defBody s__law_end) (defScope s__law_end) .none kV20 dc20 pm20 an20 cd20 ct20), sl20⟩) (d20 : PySem.W.codeIn K cd20 "_law_end" = true) (k20 : PySem.W.keepIn K (.ref f20) = true)
    {f21 : Addr} {od21 an21 : Option Addr} {sl21 : Array (Option Value)} {oc21 kV21 dc21 pm21 cd21 ct21 : Value}
    (a21 : PySem.W.nsIn K mainGlobals "_law_leases" = some (some (.ref f21))) (l21 : K.lookup f21 = some ⟨oc21, od21, .func (PySem.W.fnOf "_law_leases" "_law_leases" (defArgs s__law_leases) (defBody s__law_leases) (defScope s__law_leases) .none kV21 dc21 pm21 an21 cd21 ct21), sl21⟩) (d21 : PySem.W.codeIn K cd21 "_law_leases" = true) (k21 : PySem.W.keepIn K (.ref f21) = true)
    {f22 : Addr} {od22 an22 : Option Addr} {sl22 : Array (Option Value)} {oc22 kV22 dc22 pm22 cd22 ct22 : Value}
    (a22 : PySem.W.nsIn K mainGlobals "_law_pins" = some (some (.ref f22))) (l22 : K.lookup f22 = some ⟨oc22, od22, .func (PySem.W.fnOf "_law_pins" "_law_pins" (defArgs s__law_pins) (defBody s__law_pins) (defScope s__law_pins) .none kV22 dc22 pm22 an22 cd22 ct22), sl22⟩) (d22 : PySem.W.codeIn K cd22 "_law_pins" = true) (k22 : PySem.W.keepIn K (.ref f22) = true)
    {f23 : Addr} {od23 an23 : Option Addr} {sl23 : Array (Option Value)} {oc23 kV23 dc23 pm23 cd23 ct23 : Value}
    (a23 : PySem.W.nsIn K mainGlobals "_law_stands" = some (some (.ref f23))) (l23 : K.lookup f23 = some ⟨oc23, od23, .func (PySem.W.fnOf "_law_stands" "_law_stands" (defArgs s__law_stands) (defBody s__law_stands) (defScope s__law_stands) .none kV23 dc23 pm23 an23 cd23 ct23), sl23⟩) (d23 : PySem.W.codeIn K cd23 "_law_stands" = true) (k23 : PySem.W.keepIn K (.ref f23) = true)
    {f24 : Addr} {od24 an24 : Option Addr} {sl24 : Array (Option Value)} {oc24 kV24 dc24 pm24 cd24 ct24 : Value}
    (a24 : PySem.W.nsIn K mainGlobals "_law_wide" = some (some (.ref f24))) (l24 : K.lookup f24 = some ⟨oc24, od24, .func (PySem.W.fnOf "_law_wide" "_law_wide" (defArgs s__law_wide) (defBody s__law_wide) (defScope s__law_wide) .none kV24 dc24 pm24 an24 cd24 ct24), sl24⟩) (d24 : PySem.W.codeIn K cd24 "_law_wide" = true) (k24 : PySem.W.keepIn K (.ref f24) = true)
    {f25 : Addr} {od25 an25 : Option Addr} {sl25 : Array (Option Value)} {oc25 kV25 dc25 pm25 cd25 ct25 : Value}
    (a25 : PySem.W.nsIn K mainGlobals "_law_near" = some (some (.ref f25))) (l25 : K.lookup f25 = some ⟨oc25, od25, .func (PySem.W.fnOf "_law_near" "_law_near" (defArgs s__law_near) (defBody s__law_near) (defScope s__law_near) .none kV25 dc25 pm25 an25 cd25 ct25), sl25⟩) (d25 : PySem.W.codeIn K cd25 "_law_near" = true) (k25 : PySem.W.keepIn K (.ref f25) = true)
    {f26 : Addr} {od26 an26 : Option Addr} {sl26 : Array (Option Value)} {oc26 kV26 dc26 pm26 cd26 ct26 : Value}
    (a26 : PySem.W.nsIn K mainGlobals "_law_cut_fleet" = some (some (.ref f26))) (l26 : K.lookup f26 = some ⟨oc26, od26, .func (PySem.W.fnOf "_law_cut_fleet" "_law_cut_fleet" (defArgs s__law_cut_fleet) (defBody s__law_cut_fleet) (defScope s__law_cut_fleet) .none kV26 dc26 pm26 an26 cd26 ct26), sl26⟩) (d26 : PySem.W.codeIn K cd26 "_law_cut_fleet" = true) (k26 : PySem.W.keepIn K (.ref f26) = true)
    {f27 : Addr} {od27 an27 : Option Addr} {sl27 : Array (Option Value)} {oc27 kV27 dc27 pm27 cd27 ct27 : Value}
    (a27 : PySem.W.nsIn K mainGlobals "_law_middle" = some (some (.ref f27))) (l27 : K.lookup f27 = some ⟨oc27, od27, .func (PySem.W.fnOf "_law_middle" "_law_middle" (defArgs s__law_middle) (defBody s__law_middle) (defScope s__law_middle) .none kV27 dc27 pm27 an27 cd27 ct27), sl27⟩) (d27 : PySem.W.codeIn K cd27 "_law_middle" = true) (k27 : PySem.W.keepIn K (.ref f27) = true)
    {f28 : Addr} {od28 an28 : Option Addr} {sl28 : Array (Option Value)} {oc28 kV28 dc28 pm28 cd28 ct28 : Value}
    (a28 : PySem.W.nsIn K mainGlobals "_law_exchanged" = some (some (.ref f28))) (l28 : K.lookup f28 = some ⟨oc28, od28, .func (PySem.W.fnOf "_law_exchanged" "_law_exchanged" (defArgs s__law_exchanged) (defBody s__law_exchanged) (defScope s__law_exchanged) .none kV28 dc28 pm28 an28 cd28 ct28), sl28⟩) (d28 : PySem.W.codeIn K cd28 "_law_exchanged" = true) (k28 : PySem.W.keepIn K (.ref f28) = true)
    {f29 : Addr} {od29 an29 : Option Addr} {sl29 : Array (Option Value)} {oc29 kV29 dc29 pm29 cd29 ct29 : Value}
    (a29 : PySem.W.nsIn K mainGlobals "law" = some (some (.ref f29))) (l29 : K.lookup f29 = some ⟨oc29, od29, .func (PySem.W.fnOf "law" "law" (defArgs s_law) (defBody s_law) (defScope s_law) .none kV29 dc29 pm29 an29 cd29 ct29), sl29⟩) (d29 : PySem.W.codeIn K cd29 "law" = true) (k29 : PySem.W.keepIn K (.ref f29) = true)
    (z_abs : PySem.W.nsIn K mainGlobals "abs" = some none)
    (z_dict : PySem.W.nsIn K mainGlobals "dict" = some none)
    (z_enumerate : PySem.W.nsIn K mainGlobals "enumerate" = some none)
    (z_int : PySem.W.nsIn K mainGlobals "int" = some none)
    (z_len : PySem.W.nsIn K mainGlobals "len" = some none)
    (z_list : PySem.W.nsIn K mainGlobals "list" = some none)
    (z_range : PySem.W.nsIn K mainGlobals "range" = some none)
    (z_repr : PySem.W.nsIn K mainGlobals "repr" = some none)
    (z_set : PySem.W.nsIn K mainGlobals "set" = some none)
    (z_sorted : PySem.W.nsIn K mainGlobals "sorted" = some none)
    (z_sum : PySem.W.nsIn K mainGlobals "sum" = some none)
    (z_tuple : PySem.W.nsIn K mainGlobals "tuple" = some none)
    (z_zip : PySem.W.nsIn K mainGlobals "zip" = some none)
    : ∃ fd : FuncData, (∀ (s : Shared) (v : Value), BindsTo s fd ⟨[v], []⟩ [("script", v)]) ∧ ∀ base : Heap, K.In base → base.Ns mainGlobals mg → FnG l.prog WW.w K mg base CX0 7 fa fd ["script"] (spP K C_law) := by
  refine NoI.keep (fun _ wNoI => ?_) ?_
  simp only [↓ NoI.wrOf wNoI (by
  clear wNoI
  have e := hfa.symm.trans (PySem.W.mg_of X G a29)
  cases e
  have y_abs := PySem.W.mg_none_of X G z_abs
  have y_dict := PySem.W.mg_none_of X G z_dict
  have y_enumerate := PySem.W.mg_none_of X G z_enumerate
  have y_int := PySem.W.mg_none_of X G z_int
  have y_len := PySem.W.mg_none_of X G z_len
  have y_list := PySem.W.mg_none_of X G z_list
  have y_range := PySem.W.mg_none_of X G z_range
  have y_repr := PySem.W.mg_none_of X G z_repr
  have y_set := PySem.W.mg_none_of X G z_set
  have y_sorted := PySem.W.mg_none_of X G z_sorted
  have y_sum := PySem.W.mg_none_of X G z_sum
  have y_tuple := PySem.W.mg_none_of X G z_tuple
  have y_zip := PySem.W.mg_none_of X G z_zip
  refine ⟨PySem.W.fnOf "law" "law" (defArgs s_law) (defBody s_law) (defScope s_law) .none kV29 dc29 pm29 an29 cd29 ct29, fun s v => .of_eq rfl, fun base _ _ => ?_⟩
  have F0 := fun_mk (st := s_size) l0 d0 k0
  have c_size : Cal l.prog K mg base 1 "size" ["fleet"] C_size := ⟨_, _, ok_size F0 y_len, F0.binds (ps := ["fleet"]) (fun _ _ _ _ _ _ us hl => match us, hl with | [_], _ => rfl), PySem.W.mg_of X G a0, F0.kp⟩
  have F1 := fun_mk (st := s_restarts_of) l1 d1 k1
  have c_restarts_of : Cal l.prog K mg base 2 "restarts_of" ["fleet", "service"] C_restarts_of := ⟨_, _, ok_restarts_of F1 c_size y_range y_tuple, F1.binds (ps := ["fleet", "service"]) (fun _ _ _ _ _ _ us hl => match us, hl with | [_, _], _ => rfl), PySem.W.mg_of X G a1, F1.kp⟩
  have F2 := fun_mk (st := s_leases_of) l2 d2 k2
  have c_leases_of : Cal l.prog K mg base 3 "leases_of" ["fleet"] C_leases_of := ⟨_, _, ok_leases_of F2 c_restarts_of y_tuple, F2.binds (ps := ["fleet"]) (fun _ _ _ _ _ _ us hl => match us, hl with | [_], _ => rfl), PySem.W.mg_of X G a2, F2.kp⟩
  have F3 := fun_mk (st := s_hopping_before) l3 d3 k3
  have c_hopping_before : Cal l.prog K mg base 1 "hopping_before" ["fleet", "plan", "stretch"] C_hopping_before := ⟨_, _, ok_hopping_before F3 y_tuple, F3.binds (ps := ["fleet", "plan", "stretch"]) (fun _ _ _ _ _ _ us hl => match us, hl with | [_, _, _], _ => rfl), PySem.W.mg_of X G a3, F3.kp⟩
  have F4 := fun_mk (st := s_reduced) l4 d4 k4
  have c_reduced : Cal l.prog K mg base 1 "reduced" ["word"] C_reduced := ⟨_, _, ok_reduced F4 y_tuple, F4.binds (ps := ["word"]) (fun _ _ _ _ _ _ us hl => match us, hl with | [_], _ => rfl), PySem.W.mg_of X G a4, F4.kp⟩
  have F5 := fun_mk (st := s_joined) l5 d5 k5
  have c_joined : Cal l.prog K mg base 2 "joined" ["first", "second"] C_joined := ⟨_, _, ok_joined F5 c_reduced, F5.binds (ps := ["first", "second"]) (fun _ _ _ _ _ _ us hl => match us, hl with | [_, _], _ => rfl), PySem.W.mg_of X G a5, F5.kp⟩
  have F6 := fun_mk (st := s_inverse) l6 d6 k6
  have c_inverse : Cal l.prog K mg base 1 "inverse" ["word"] C_inverse := ⟨_, _, ok_inverse F6 , F6.binds (ps := ["word"]) (fun _ _ _ _ _ _ us hl => match us, hl with | [_], _ => rfl), PySem.W.mg_of X G a6, F6.kp⟩
  have F7 := fun_mk (st := s_walk) l7 d7 k7
  have c_walk : Cal l.prog K mg base 3 "walk" ["one", "other"] C_walk := ⟨_, _, ok_walk F7 c_joined c_inverse, F7.binds (ps := ["one", "other"]) (fun _ _ _ _ _ _ us hl => match us, hl with | [_, _], _ => rfl), PySem.W.mg_of X G a7, F7.kp⟩
  have F8 := fun_mk (st := s_vertex_in) l8 d8 k8
  have c_vertex_in : Cal l.prog K mg base 2 "vertex_in" ["fleet", "plan", "stretch"] C_vertex_in := ⟨_, _, ok_vertex_in F8 c_hopping_before c_reduced, F8.binds (ps := ["fleet", "plan", "stretch"]) (fun _ _ _ _ _ _ us hl => match us, hl with | [_, _, _], _ => rfl), PySem.W.mg_of X G a8, F8.kp⟩
  have F9 := fun_mk (st := s_apart) l9 d9 k9
  have c_apart : Cal l.prog K mg base 4 "apart" ["fleet", "one", "other", "lease"] C_apart := ⟨_, _, ok_apart F9 c_walk c_vertex_in, F9.binds (ps := ["fleet", "one", "other", "lease"]) (fun _ _ _ _ _ _ us hl => match us, hl with | [_, _, _, _], _ => rfl), PySem.W.mg_of X G a9, F9.kp⟩
  have F10 := fun_mk (st := s_aparts) l10 d10 k10
  have c_aparts : Cal l.prog K mg base 5 "aparts" ["fleet", "one", "other"] C_aparts := ⟨_, _, ok_aparts F10 c_leases_of c_apart, F10.binds (ps := ["fleet", "one", "other"]) (fun _ _ _ _ _ _ us hl => match us, hl with | [_, _, _], _ => rfl), PySem.W.mg_of X G a10, F10.kp⟩
  have F11 := fun_mk (st := s_distance) l11 d11 k11
  have c_distance : Cal l.prog K mg base 5 "distance" ["fleet", "one", "other"] C_distance := ⟨_, _, ok_distance F11 c_leases_of c_apart y_sum, F11.binds (ps := ["fleet", "one", "other"]) (fun _ _ _ _ _ _ us hl => match us, hl with | [_, _, _], _ => rfl), PySem.W.mg_of X G a11, F11.kp⟩
  have F12 := fun_mk (st := s__law_bag) l12 d12 k12
  have c__law_bag : Cal l.prog K mg base 1 "_law_bag" ["script"] C__law_bag := ⟨_, _, ok__law_bag F12 y_abs, F12.binds (ps := ["script"]) (fun _ _ _ _ _ _ us hl => match us, hl with | [_], _ => rfl), PySem.W.mg_of X G a12, F12.kp⟩
  have F13 := fun_mk (st := s__law_take) l13 d13 k13
  have c__law_take : Cal l.prog K mg base 1 "_law_take" ["bag", "many"] C__law_take := ⟨_, _, ok__law_take F13 y_int, F13.binds (ps := ["bag", "many"]) (fun _ _ _ _ _ _ us hl => match us, hl with | [_, _], _ => rfl), PySem.W.mg_of X G a13, F13.kp⟩
  have F14 := fun_mk (st := s__law_some) l14 d14 k14
  have c__law_some : Cal l.prog K mg base 2 "_law_some" ["bag", "things"] C__law_some := ⟨_, _, ok__law_some F14 c__law_take y_len, F14.binds (ps := ["bag", "things"]) (fun _ _ _ _ _ _ us hl => match us, hl with | [_, _], _ => rfl), PySem.W.mg_of X G a14, F14.kp⟩
  have F15 := fun_mk (st := s__law_mixed) l15 d15 k15
  have c__law_mixed : Cal l.prog K mg base 2 "_law_mixed" ["bag", "things"] C__law_mixed := ⟨_, _, ok__law_mixed F15 c__law_take y_len, F15.binds (ps := ["bag", "things"]) (fun _ _ _ _ _ _ us hl => match us, hl with | [_, _], _ => rfl), PySem.W.mg_of X G a15, F15.kp⟩
  have F16 := fun_mk (st := s__law_alike) l16 d16 k16
  have c__law_alike : Cal l.prog K mg base 1 "_law_alike" ["found", "due"] C__law_alike := ⟨_, _, ok__law_alike F16 y_repr, F16.binds (ps := ["found", "due"]) (fun _ _ _ _ _ _ us hl => match us, hl with | [_, _], _ => rfl), PySem.W.mg_of X G a16, F16.kp⟩
  have F17 := fun_mk (st := s__law_names) l17 d17 k17
  have c__law_names : Cal l.prog K mg base 3 "_law_names" ["bag", "many"] C__law_names := ⟨_, _, ok__law_names F17 c__law_take c__law_some c__law_mixed y_int y_range, F17.binds (ps := ["bag", "many"]) (fun _ _ _ _ _ _ us hl => match us, hl with | [_, _], _ => rfl), PySem.W.mg_of X G a17, F17.kp⟩
  have F18 := fun_mk (st := s__law_fleet) l18 d18 k18
  have c__law_fleet : Cal l.prog K mg base 4 "_law_fleet" ["bag", "many", "most"] C__law_fleet := ⟨_, _, ok__law_fleet F18 c__law_take c__law_some c__law_mixed c__law_names y_int y_len y_list y_range y_sorted y_tuple, F18.binds (ps := ["bag", "many", "most"]) (fun _ _ _ _ _ _ us hl => match us, hl with | [_, _, _], _ => rfl), PySem.W.mg_of X G a18, F18.kp⟩
  have F19 := fun_mk (st := s__law_plan) l19 d19 k19
  have c__law_plan : Cal l.prog K mg base 3 "_law_plan" ["bag", "fleet"] C__law_plan := ⟨_, _, ok__law_plan F19 c__law_take c__law_some y_len y_range y_tuple, F19.binds (ps := ["bag", "fleet"]) (fun _ _ _ _ _ _ us hl => match us, hl with | [_, _], _ => rfl), PySem.W.mg_of X G a19, F19.kp⟩
  have F20 := fun_mk (st := s__law_end) l20 d20 k20
  have c__law_end : Cal l.prog K mg base 1 "_law_end" ["fleet", "lease"] C__law_end := ⟨_, _, ok__law_end F20 y_enumerate y_len, F20.binds (ps := ["fleet", "lease"]) (fun _ _ _ _ _ _ us hl => match us, hl with | [_, _], _ => rfl), PySem.W.mg_of X G a20, F20.kp⟩
  have F21 := fun_mk (st := s__law_leases) l21 d21 k21
  have c__law_leases : Cal l.prog K mg base 1 "_law_leases" ["fleet"] C__law_leases := ⟨_, _, ok__law_leases F21 y_enumerate y_sorted, F21.binds (ps := ["fleet"]) (fun _ _ _ _ _ _ us hl => match us, hl with | [_], _ => rfl), PySem.W.mg_of X G a21, F21.kp⟩
  have F22 := fun_mk (st := s__law_pins) l22 d22 k22
  have c__law_pins : Cal l.prog K mg base 3 "_law_pins" ["bag", "fleet"] C__law_pins := ⟨_, _, ok__law_pins F22 c__law_take c__law_some c__law_leases y_tuple, F22.binds (ps := ["bag", "fleet"]) (fun _ _ _ _ _ _ us hl => match us, hl with | [_, _], _ => rfl), PySem.W.mg_of X G a22, F22.kp⟩
  have F23 := fun_mk (st := s__law_stands) l23 d23 k23
  have c__law_stands : Cal l.prog K mg base 1 "_law_stands" ["fleet", "plan"] C__law_stands := ⟨_, _, ok__law_stands F23 y_dict y_len y_range y_zip, F23.binds (ps := ["fleet", "plan"]) (fun _ _ _ _ _ _ us hl => match us, hl with | [_, _], _ => rfl), PySem.W.mg_of X G a23, F23.kp⟩
  have F24 := fun_mk (st := s__law_wide) l24 d24 k24
  have c__law_wide : Cal l.prog K mg base 5 "_law_wide" ["bag"] C__law_wide := ⟨_, _, ok__law_wide F24 c__law_some c__law_fleet, F24.binds (ps := ["bag"]) (fun _ _ _ _ _ _ us hl => match us, hl with | [_], _ => rfl), PySem.W.mg_of X G a24, F24.kp⟩
  have F28 := fun_mk (st := s__law_exchanged) l28 d28 k28
  have c__law_exchanged : Cal l.prog K mg base 2 "_law_exchanged" ["fleet", "plan", "lease"] C__law_exchanged := ⟨_, _, ok__law_exchanged F28 c__law_end y_int y_len y_sorted y_tuple, F28.binds (ps := ["fleet", "plan", "lease"]) (fun _ _ _ _ _ _ us hl => match us, hl with | [_, _, _], _ => rfl), PySem.W.mg_of X G a28, F28.kp⟩
  have F25 := fun_mk (st := s__law_near) l25 d25 k25
  have c__law_near : Cal l.prog K mg base 3 "_law_near" ["fleet", "plan", "pins"] C__law_near := ⟨_, _, ok__law_near F25 c__law_end c__law_leases c__law_stands c__law_exchanged y_len, F25.binds (ps := ["fleet", "plan", "pins"]) (fun _ _ _ _ _ _ us hl => match us, hl with | [_, _, _], _ => rfl), PySem.W.mg_of X G a25, F25.kp⟩
  have F26 := fun_mk (st := s__law_cut_fleet) l26 d26 k26
  have c__law_cut_fleet : Cal l.prog K mg base 5 "_law_cut_fleet" ["bag", "many", "most"] C__law_cut_fleet := ⟨_, _, ok__law_cut_fleet F26 c__law_fleet, F26.binds (ps := ["bag", "many", "most"]) (fun _ _ _ _ _ _ us hl => match us, hl with | [_, _, _], _ => rfl), PySem.W.mg_of X G a26, F26.kp⟩
  have F27 := fun_mk (st := s__law_middle) l27 d27 k27
  have c__law_middle : Cal l.prog K mg base 6 "_law_middle" ["bag"] C__law_middle := ⟨_, _, ok__law_middle F27 c__law_some c__law_cut_fleet, F27.binds (ps := ["bag"]) (fun _ _ _ _ _ _ us hl => match us, hl with | [_], _ => rfl), PySem.W.mg_of X G a27, F27.kp⟩
  have F29 := fun_mk (st := s_law) l29 d29 k29
  exact ok_law F29 c_aparts c_distance c__law_bag c__law_take c__law_some c__law_alike c__law_plan c__law_pins c__law_wide c__law_near c__law_middle y_abs y_list y_range y_set y_sorted y_sum y_zip
  )]
  intro _ hNoI
  simpa using (fun (_ : NoI.Sg) => hNoI) [5]
end LW
open PySem PySem.W PyProof.Rows
set_option maxHeartbeats 0 in
theorem PySem.Challenge.cw_sparehop_k25_whole_each_edit_moves_one_l_holds : PySem.Challenge.rw_sparehop_k25_whole_each_edit_moves_one_l.Holds := by
  w_on; o_law; k_head; (case hw => w_witness2)
  k_fill
  refine SH.walk_ofG (l := PySem.Challenge.rw_sparehop_k25_whole_each_edit_moves_one_l) (n := 63) (k := 7) (x := "script") (sp := fun w => @SH.spP ⟨w⟩ _ LW.C_law) rfl (by decide) rfl ⟨rfl, by decide, by decide⟩ (fun w h Y => PySem.W.kIn_of Y) ?F (fun w _ a ns hl hO hS => @LW.law_start ⟨w⟩ _ _ _ _ hl hO hS)
  case F =>
    intro w mg fa h KX G hmg
    letI : SH.WW := ⟨w⟩
    refine' LW.all_mk KX G hmg ?ha0 ?hl0 ?hd0 ?hk0 ?ha1 ?hl1 ?hd1 ?hk1 ?ha2 ?hl2 ?hd2 ?hk2 ?ha3 ?hl3 ?hd3 ?hk3 ?ha4 ?hl4 ?hd4 ?hk4 ?ha5 ?hl5 ?hd5 ?hk5 ?ha6 ?hl6 ?hd6 ?hk6 ?ha7 ?hl7 ?hd7 ?hk7 ?ha8 ?hl8 ?hd8 ?hk8 ?ha9 ?hl9 ?hd9 ?hk9 ?ha10 ?hl10 ?hd10 ?hk10 ?ha11 ?hl11 ?hd11 ?hk11 ?ha12 ?hl12 ?hd12 ?hk12 ?ha13 ?hl13 ?hd13 ?hk13 ?ha14 ?hl14 ?hd14 ?hk14 ?ha15 ?hl15 ?hd15 ?hk15 ?ha16 ?hl16 ?hd16 ?hk16 ?ha17 ?hl17 ?hd17 ?hk17 ?ha18 ?hl18 ?hd18 ?hk18 ?ha19 ?hl19 ?hd19 ?hk19 ?ha20 ?hl20 ?hd20 ?hk20 ?ha21 ?hl21 ?hd21 ?hk21 ?ha22 ?hl22 ?hd22 ?hk22 ?ha23 ?hl23 ?hd23 ?hk23 ?ha24 ?hl24 ?hd24 ?hk24 ?ha25 ?hl25 ?hd25 ?hk25 ?ha26 ?hl26 ?hd26 ?hk26 ?ha27 ?hl27 ?hd27 ?hk27 ?ha28 ?hl28 ?hd28 ?hk28 ?ha29 ?hl29 ?hd29 ?hk29 ?hz_abs ?hz_dict ?hz_enumerate ?hz_int ?hz_len ?hz_list ?hz_range ?hz_repr ?hz_set ?hz_sorted ?hz_sum ?hz_tuple ?hz_zip
    (case ha0 => k_is)
    (case hl0 => k_is)
    (case hd0 => k_is)
    (case hk0 => k_is)
    (case ha1 => k_is)
    (case hl1 => k_is)
    (case hd1 => k_is)
    (case hk1 => k_is)
    (case ha2 => k_is)
    (case hl2 => k_is)
    (case hd2 => k_is)
    (case hk2 => k_is)
    (case ha3 => k_is)
    (case hl3 => k_is)
    (case hd3 => k_is)
    (case hk3 => k_is)
    (case ha4 => k_is)
    (case hl4 => k_is)
    (case hd4 => k_is)
    (case hk4 => k_is)
    (case ha5 => k_is)
    (case hl5 => k_is)
    (case hd5 => k_is)
    (case hk5 => k_is)
    (case ha6 => k_is)
    (case hl6 => k_is)
    (case hd6 => k_is)
    (case hk6 => k_is)
    (case ha7 => k_is)
    (case hl7 => k_is)
    (case hd7 => k_is)
    (case hk7 => k_is)
    (case ha8 => k_is)
    (case hl8 => k_is)
    (case hd8 => k_is)
    (case hk8 => k_is)
    (case ha9 => k_is)
    (case hl9 => k_is)
    (case hd9 => k_is)
    (case hk9 => k_is)
    (case ha10 => k_is)
    (case hl10 => k_is)
    (case hd10 => k_is)
    (case hk10 => k_is)
    (case ha11 => k_is)
    (case hl11 => k_is)
    (case hd11 => k_is)
    (case hk11 => k_is)
    (case ha12 => k_is)
    (case hl12 => k_is)
    (case hd12 => k_is)
    (case hk12 => k_is)
    (case ha13 => k_is)
    (case hl13 => k_is)
    (case hd13 => k_is)
    (case hk13 => k_is)
    (case ha14 => k_is)
    (case hl14 => k_is)
    (case hd14 => k_is)
    (case hk14 => k_is)
    (case ha15 => k_is)
    (case hl15 => k_is)
    (case hd15 => k_is)
    (case hk15 => k_is)
    (case ha16 => k_is)
    (case hl16 => k_is)
    (case hd16 => k_is)
    (case hk16 => k_is)
    (case ha17 => k_is)
    (case hl17 => k_is)
    (case hd17 => k_is)
    (case hk17 => k_is)
    (case ha18 => k_is)
    (case hl18 => k_is)
    (case hd18 => k_is)
    (case hk18 => k_is)
    (case ha19 => k_is)
    (case hl19 => k_is)
    (case hd19 => k_is)
    (case hk19 => k_is)
    (case ha20 => k_is)
    (case hl20 => k_is)
    (case hd20 => k_is)
    (case hk20 => k_is)
    (case ha21 => k_is)
    (case hl21 => k_is)
    (case hd21 => k_is)
    (case hk21 => k_is)
    (case ha22 => k_is)
    (case hl22 => k_is)
    (case hd22 => k_is)
    (case hk22 => k_is)
    (case ha23 => k_is)
    (case hl23 => k_is)
    (case hd23 => k_is)
    (case hk23 => k_is)
    (case ha24 => k_is)
    (case hl24 => k_is)
    (case hd24 => k_is)
    (case hk24 => k_is)
    (case ha25 => k_is)
    (case hl25 => k_is)
    (case hd25 => k_is)
    (case hk25 => k_is)
    (case ha26 => k_is)
    (case hl26 => k_is)
    (case hd26 => k_is)
    (case hk26 => k_is)
    (case ha27 => k_is)
    (case hl27 => k_is)
    (case hd27 => k_is)
    (case hk27 => k_is)
    (case ha28 => k_is)
    (case hl28 => k_is)
    (case hd28 => k_is)
    (case hk28 => k_is)
    (case ha29 => k_is)
    (case hl29 => k_is)
    (case hd29 => k_is)
    (case hk29 => k_is)
    (case hz_abs => k_is)
    (case hz_dict => k_is)
    (case hz_enumerate => k_is)
    (case hz_int => k_is)
    (case hz_len => k_is)
    (case hz_list => k_is)
    (case hz_range => k_is)
    (case hz_repr => k_is)
    (case hz_set => k_is)
    (case hz_sorted => k_is)
    (case hz_sum => k_is)
    (case hz_tuple => k_is)
    (case hz_zip => k_is)

