import PyProof.Rows.All
import Wide.All
import OpenK.AllK
import Wide.FinOn
import HandS.Base
import HandS.Call
import HandS.Words
import HandS.List
import HandS.ExcOwn
import HandS.Conv
import HandS.IsInst
import HandS.Iter
import HandS.Comp
import HandS.Dict
import HandS.WordsList
import HandS.WordsDict
import HandS.WordsExc
import HandS.TupAny
import HandS.Codes
import HandS.Text
import HandS.SortInts
import HandS.TupSets
import HandS.SetBool
import HandS.SetKeys
import HandS.Strs
import HandS.SortOrd
import KE.KSortTupAny
import HandS.Small
import HandS.More
import KE.LtData
import HandS.Style
import HandS.SetFor
import HandS.TryMany
import HandS.WideBits
import HandS.Wide
import HandS.DictComp
import KE.KTupSum
import HandS.EndBits
import HandS.Gcd
import KE.KMathGC
import HandS.TupMul
import HandS.Flow
import PyProof.DictItems
import KE.GoesEnum
import KE.KDictWalk
import HandS.Zip
import HandS.Star
import KE.GoesMore
import PyProof.ListRange
import PyProof.LongRange
import HandS.SetTxt0
import HandS.ExcInit
import HandS.ExcIs
import HandS.ExcField
import HandS.FltList
import KE.KExcIs
import HandS.CallLocal
import KE.GoesZip
import HandS.OwnEq
import PyProof.StrBlock2
import PyProof.ReprRoads
import HandS.Sort
import PyProof.ListStr
import PyProof.DictValues
import PyProof.DictWalks
import PySem.Challenge.RW_wholestakes_k51_plain_plans_refused
set_option Elab.async false
set_option linter.all false
section
set_option maxRecDepth 100000
/-! Vl: Python's data as values; a state of a def without the heap. -/
namespace Vl
open PySem L2
/-- deep data that is never changed again -/
inductive D where
  | non | bl (b : Bool) | int (i : Int) | str (x : Str) | ty (n : String) | ref (a : Addr)
  | tup (xs : List D) | lst (xs : List D) | dic (kvs : List (Key × D)) | dit (kvs : List (List Key × D)) | obj (C : Addr) (fs : List (Str × D))
/-- data owned by a slot: it may be changed -/
inductive T where
  | v (d : D) | lst (ts : List T) | dic (kvs : List (Key × T)) | dit (kvs : List (List Key × T)) | obj (C : Addr) (fs : List (Str × T)) | at_ (a : Addr) (t : T)
/-! the data when it is let go as it is -/
mutual
def T.d : T → D
  | .v d => d
  | .lst ts => .lst (T.dL ts)
  | .dic kvs => .dic (T.dK kvs)
  | .dit kvs => .dit (T.dT kvs)
  | .obj C fs => .obj C (T.dF fs)
  | .at_ _ t => T.d t
def T.dL : List T → List D
  | [] => []
  | t :: ts => T.d t :: T.dL ts
def T.dK : List (Key × T) → List (Key × D)
  | [] => []
  | (k, t) :: ts => (k, T.d t) :: T.dK ts
def T.dT : List (List Key × T) → List (List Key × D)
  | [] => []
  | (k, t) :: ts => (k, T.d t) :: T.dT ts
def T.dF : List (Str × T) → List (Str × D)
  | [] => []
  | (k, t) :: ts => (k, T.d t) :: T.dF ts
end
theorem T.dL_map : ∀ ts : List T, T.dL ts = ts.map T.d
  | [] => by simp [T.dL]
  | t :: ts => by simp [T.dL, T.dL_map ts]
theorem T.dK_map : ∀ ts : List (Key × T), T.dK ts = ts.map fun p => (p.1, p.2.d)
  | [] => by simp [T.dK]
  | (k, t) :: ts => by simp [T.dK, T.dK_map ts]
theorem T.dT_map : ∀ ts : List (List Key × T), T.dT ts = ts.map fun p => (p.1, p.2.d)
  | [] => by simp [T.dT]
  | (k, t) :: ts => by simp [T.dT, T.dT_map ts]
theorem T.dF_map : ∀ ts : List (Str × T), T.dF ts = ts.map fun p => (p.1, p.2.d)
  | [] => by simp [T.dF]
  | (k, t) :: ts => by simp [T.dF, T.dF_map ts]
theorem T.d_v (d : D) : (T.v d).d = d := by rw [T.d]
theorem T.d_lst (ts : List T) : (T.lst ts).d = .lst (ts.map T.d) := by rw [T.d, T.dL_map]
theorem T.d_dic (kvs : List (Key × T)) : (T.dic kvs).d = .dic (kvs.map fun p => (p.1, p.2.d)) := by rw [T.d, T.dK_map]
theorem T.d_dit (kvs : List (List Key × T)) : (T.dit kvs).d = .dit (kvs.map fun p => (p.1, p.2.d)) := by rw [T.d, T.dT_map]
theorem T.d_obj (C : Addr) (fs : List (Str × T)) : (T.obj C fs).d = .obj C (fs.map fun p => (p.1, p.2.d)) := by rw [T.d, T.dF_map]
theorem T.d_at (a : Addr) (t : T) : (T.at_ a t).d = t.d := by rw [T.d]
mutual
inductive Den (K : PySem.W.Frag) (F : Hp) : V → D → Prop
  | non : Den K F .non .non
  | bl (b : Bool) : Den K F (.bl b) (.bl b)
  | int (i : Int) : Den K F (.int i) (.int i)
  | str (x : Str) : Den K F (.str x) (.str x)
  | ty (n : String) : Den K F (.ty n) (.ty n)
  | ref (a : Addr) : Den K F (.ref a) (.ref a)
  | tup {a : Addr} {xs : List V} {ds : List D} : F a = some (.tup xs) → DenL K F xs ds → Den K F (.ref a) (.tup ds)
  | lst {a : Addr} {xs : List V} {ds : List D} : SqL K F a xs → DenL K F xs ds → Den K F (.ref a) (.lst ds)
  | dic {a : Addr} {kvs : List (Key × V)} {ds : List (Key × D)} : Rd F a (.dK kvs) → kvs.map (·.1) = ds.map (·.1) → DenL K F (kvs.map (·.2)) (ds.map (·.2)) → Den K F (.ref a) (.dic ds)
  | dit {a : Addr} {kvs : List (List Key × V)} {ds : List (List Key × D)} : Rd F a (.dT kvs) → kvs.map (·.1) = ds.map (·.1) → DenL K F (kvs.map (·.2)) (ds.map (·.2)) → Den K F (.ref a) (.dit ds)
  | obj {a C dx : Addr} {fs : List (Str × V)} {ds : List (Str × D)} : F a = some (.ins C dx fs) → fs.map (·.1) = ds.map (·.1) → DenL K F (fs.map (·.2)) (ds.map (·.2)) → Den K F (.ref a) (.obj C ds)
inductive DenL (K : PySem.W.Frag) (F : Hp) : List V → List D → Prop
  | nil : DenL K F [] []
  | cons {x : V} {d : D} {xs : List V} {ds : List D} : Den K F x d → DenL K F xs ds → DenL K F (x :: xs) (d :: ds)
end
theorem rd_ex {F F' : Hp} {a : Addr} {u : HO} (e : Same F F') (h : Rd F a u) : Rd F' a u := by
  rcases h with h | ⟨o, h⟩
  · exact Or.inl (e a _ h)
  · exact Or.inr ⟨o, e a _ h⟩
theorem sqL_ex {K : PySem.W.Frag} {F F' : Hp} {a : Addr} {xs : List V} (e : Same F F') (h : SqL K F a xs) : SqL K F' a xs := e.seq h
mutual
theorem Den.mono {K : PySem.W.Frag} {F F' : Hp} (e : Same F F') {v : V} {d : D} : Den K F v d → Den K F' v d
  | .non => .non
  | .bl b => .bl b
  | .int i => .int i
  | .str x => .str x
  | .ty n => .ty n
  | .ref a => .ref a
  | .tup h q => .tup (e _ _ h) (DenL.mono e q)
  | .lst h q => .lst (sqL_ex e h) (DenL.mono e q)
  | .dic h k q => .dic (rd_ex e h) k (DenL.mono e q)
  | .dit h k q => .dit (rd_ex e h) k (DenL.mono e q)
  | .obj h k q => .obj (e _ _ h) k (DenL.mono e q)
theorem DenL.mono {K : PySem.W.Frag} {F F' : Hp} (e : Same F F') {xs : List V} {ds : List D} : DenL K F xs ds → DenL K F' xs ds
  | .nil => .nil
  | .cons h q => .cons (Den.mono e h) (DenL.mono e q)
end
section
variable {K : PySem.W.Frag} {F : Hp}
theorem DenL.length {xs : List V} {ds : List D} : DenL K F xs ds → xs.length = ds.length
  | .nil => rfl
  | .cons _ q => by simp [DenL.length q]
theorem DenL.get {xs : List V} {ds : List D} : DenL K F xs ds → ∀ {i : Nat} {d : D}, ds[i]? = some d → ∃ v, xs[i]? = some v ∧ Den K F v d
  | .nil, _, _, e => by simp at e
  | .cons h q, 0, d, e => by simp at e; subst e; exact ⟨_, rfl, h⟩
  | .cons h q, i + 1, d, e => by
    obtain ⟨v, e1, e2⟩ := DenL.get q (i := i) (by simpa using e)
    exact ⟨v, by simpa using e1, e2⟩
theorem DenL.get' {xs : List V} {ds : List D} : DenL K F xs ds → ∀ {i : Nat} {v : V}, xs[i]? = some v → ∃ d, ds[i]? = some d ∧ Den K F v d
  | .nil, _, _, e => by simp at e
  | .cons h q, 0, d, e => by simp at e; subst e; exact ⟨_, rfl, h⟩
  | .cons h q, i + 1, d, e => by
    obtain ⟨v, e1, e2⟩ := DenL.get' q (i := i) (by simpa using e)
    exact ⟨v, by simpa using e1, e2⟩
theorem DenL.append {xs ys : List V} {ds es : List D} : DenL K F xs ds → DenL K F ys es → DenL K F (xs ++ ys) (ds ++ es)
  | .nil, q => q
  | .cons h t, q => .cons h (DenL.append t q)
end
mutual
inductive Own (K : PySem.W.Frag) (F H : Hp) : V → T → List Addr → Prop
  | v {x : V} {d : D} : Den K F x d → Own K F H x (.v d) []
  | at_ {a : Addr} {t : T} {A : List Addr} : Own K F H (.ref a) t A → Own K F H (.ref a) (.at_ a t) A
  | lst {a : Addr} {xs : List V} {ts : List T} {A : List Addr} : H a = some (.lst xs) → OwnL K F H xs ts A → Own K F H (.ref a) (.lst ts) (a :: A)
  | dic {a : Addr} {kvs : List (Key × V)} {ts : List (Key × T)} {A : List Addr} : H a = some (.dK kvs) → kvs.map (·.1) = ts.map (·.1) → OwnL K F H (kvs.map (·.2)) (ts.map (·.2)) A → Own K F H (.ref a) (.dic ts) (a :: A)
  | dit {a : Addr} {kvs : List (List Key × V)} {ts : List (List Key × T)} {A : List Addr} : H a = some (.dT kvs) → kvs.map (·.1) = ts.map (·.1) → OwnL K F H (kvs.map (·.2)) (ts.map (·.2)) A → Own K F H (.ref a) (.dit ts) (a :: A)
  | obj {a C dx : Addr} {fs : List (Str × V)} {ts : List (Str × T)} {A : List Addr} : H a = some (.ins C dx fs) → fs.map (·.1) = ts.map (·.1) → OwnL K F H (fs.map (·.2)) (ts.map (·.2)) A → Own K F H (.ref a) (.obj C ts) (a :: A)
inductive OwnL (K : PySem.W.Frag) (F H : Hp) : List V → List T → List Addr → Prop
  | nil : OwnL K F H [] [] []
  | cons {x : V} {t : T} {xs : List V} {ts : List T} {A B : List Addr} : Own K F H x t A → OwnL K F H xs ts B → OwnL K F H (x :: xs) (t :: ts) (A ++ B)
end
mutual
theorem Own.mono {K : PySem.W.Frag} {F F' H H' : Hp} (e : Same F F') {v : V} {t : T} {A : List Addr} (k : ∀ a ∈ A, ∀ o, H a = some o → H' a = some o) : Own K F H v t A → Own K F' H' v t A
  | .v h => .v (h.mono e)
  | .at_ h => .at_ (Own.mono e k h)
  | .lst h q => .lst (k _ List.mem_cons_self _ h) (OwnL.mono e (fun a ha => k a (List.mem_cons_of_mem _ ha)) q)
  | .dic h z q => .dic (k _ List.mem_cons_self _ h) z (OwnL.mono e (fun a ha => k a (List.mem_cons_of_mem _ ha)) q)
  | .dit h z q => .dit (k _ List.mem_cons_self _ h) z (OwnL.mono e (fun a ha => k a (List.mem_cons_of_mem _ ha)) q)
  | .obj h z q => .obj (k _ List.mem_cons_self _ h) z (OwnL.mono e (fun a ha => k a (List.mem_cons_of_mem _ ha)) q)
theorem OwnL.mono {K : PySem.W.Frag} {F F' H H' : Hp} (e : Same F F') {xs : List V} {ts : List T} {A : List Addr} (k : ∀ a ∈ A, ∀ o, H a = some o → H' a = some o) : OwnL K F H xs ts A → OwnL K F' H' xs ts A
  | .nil => .nil
  | .cons h q => .cons (Own.mono e (fun a ha => k a (List.mem_append_left _ ha)) h) (OwnL.mono e (fun a ha => k a (List.mem_append_right _ ha)) q)
end
mutual
/-- owned objects stand -/
theorem Own.there {K : PySem.W.Frag} {F H : Hp} {v : V} {t : T} {A : List Addr} : Own K F H v t A → ∀ a ∈ A, ∃ o, H a = some o
  | .v h, a, ha => by cases ha
  | .at_ h, a, ha => Own.there h a ha
  | .lst h q, a, ha => by
    rcases List.mem_cons.mp ha with e | ha
    · exact ⟨_, e ▸ h⟩
    · exact OwnL.there q a ha
  | .dic h z q, a, ha => by
    rcases List.mem_cons.mp ha with e | ha
    · exact ⟨_, e ▸ h⟩
    · exact OwnL.there q a ha
  | .dit h z q, a, ha => by
    rcases List.mem_cons.mp ha with e | ha
    · exact ⟨_, e ▸ h⟩
    · exact OwnL.there q a ha
  | .obj h z q, a, ha => by
    rcases List.mem_cons.mp ha with e | ha
    · exact ⟨_, e ▸ h⟩
    · exact OwnL.there q a ha
theorem OwnL.there {K : PySem.W.Frag} {F H : Hp} {xs : List V} {ts : List T} {A : List Addr} : OwnL K F H xs ts A → ∀ a ∈ A, ∃ o, H a = some o
  | .nil, a, ha => by cases ha
  | .cons h q, a, ha => by
    rcases List.mem_append.mp ha with ha | ha
    · exact Own.there h a ha
    · exact OwnL.there q a ha
end
mutual
/-- let go: where all that is owned is known to be as it is -/
theorem Own.den {K : PySem.W.Frag} {F F' H : Hp} (e : Same F F') {v : V} {t : T} {A : List Addr} (k : ∀ a ∈ A, ∀ o, H a = some o → F' a = some o) : Own K F H v t A → Den K F' v t.d
  | .v h => by rw [T.d_v]; exact h.mono e
  | .at_ h => by rw [T.d_at]; exact Own.den e k h
  | .lst h q => by rw [T.d_lst]; exact .lst (SqL.of (k _ List.mem_cons_self _ h)) (OwnL.den e (fun a ha => k a (List.mem_cons_of_mem _ ha)) q)
  | .dic (ts := ts) h z q => by
    rw [T.d_dic]
    refine .dic (.inl (k _ List.mem_cons_self _ h)) ?_ ?_
    · rw [z]; simp [Function.comp_def]
    · have := OwnL.den e (fun a ha => k a (List.mem_cons_of_mem _ ha)) q
      simpa [Function.comp_def] using this
  | .dit (ts := ts) h z q => by
    rw [T.d_dit]
    refine .dit (.inl (k _ List.mem_cons_self _ h)) ?_ ?_
    · rw [z]; simp [Function.comp_def]
    · have := OwnL.den e (fun a ha => k a (List.mem_cons_of_mem _ ha)) q
      simpa [Function.comp_def] using this
  | .obj (ts := ts) h z q => by
    rw [T.d_obj]
    refine .obj (k _ List.mem_cons_self _ h) ?_ ?_
    · rw [z]; simp [Function.comp_def]
    · have := OwnL.den e (fun a ha => k a (List.mem_cons_of_mem _ ha)) q
      simpa [Function.comp_def] using this
theorem OwnL.den {K : PySem.W.Frag} {F F' H : Hp} (e : Same F F') {xs : List V} {ts : List T} {A : List Addr} (k : ∀ a ∈ A, ∀ o, H a = some o → F' a = some o) : OwnL K F H xs ts A → DenL K F' xs (ts.map T.d)
  | .nil => .nil
  | .cons h q => .cons (Own.den e (fun a ha => k a (List.mem_append_left _ ha)) h) (OwnL.den e (fun a ha => k a (List.mem_append_right _ ha)) q)
end
/-- slots: what each holds -/
inductive OwnS (K : PySem.W.Frag) (F H : Hp) : List (Option V) → List (Option T) → List Addr → Prop
  | nil : OwnS K F H [] [] []
  | skip {x : Option V} {vs : List (Option V)} {ts : List (Option T)} {A : List Addr} : OwnS K F H vs ts A → OwnS K F H (x :: vs) (none :: ts) A
  | cons {v : V} {t : T} {vs : List (Option V)} {ts : List (Option T)} {A B : List Addr} : Own K F H v t A → OwnS K F H vs ts B → OwnS K F H (some v :: vs) (some t :: ts) (A ++ B)
section
variable {K : PySem.W.Frag} {F F' H H' : Hp} {vs vs' : List (Option V)} {ts ts' : List (Option T)} {A B : List Addr}
theorem OwnS.mono (e : Same F F') (h : OwnS K F H vs ts A) : (∀ a ∈ A, ∀ o, H a = some o → H' a = some o) → OwnS K F' H' vs ts A := by
  induction h with
  | nil => intro _; exact .nil
  | skip _ ih => intro k; exact .skip (ih k)
  | cons h _ ih => intro k; exact .cons (h.mono e fun a ha => k a (List.mem_append_left _ ha)) (ih fun a ha => k a (List.mem_append_right _ ha))
theorem OwnS.there (h : OwnS K F H vs ts A) : ∀ a ∈ A, ∃ o, H a = some o := by
  induction h with
  | nil => intro a ha; cases ha
  | skip _ ih => exact ih
  | cons h _ ih =>
    intro a ha
    rcases List.mem_append.mp ha with ha | ha
    · exact h.there a ha
    · exact ih a ha
theorem OwnS.len (h : OwnS K F H vs ts A) : vs.length = ts.length := by
  induction h with
  | nil => rfl
  | skip _ ih => simp [ih]
  | cons _ _ ih => simp [ih]
theorem OwnS.append (h : OwnS K F H vs ts A) (h' : OwnS K F H vs' ts' B) : OwnS K F H (vs ++ vs') (ts ++ ts') (A ++ B) := by
  induction h with
  | nil => exact h'
  | skip _ ih => exact .skip ih
  | cons h _ ih => rw [List.append_assoc]; exact .cons h ih
theorem OwnS.split : ∀ {vs : List (Option V)} {ts : List (Option T)} {A : List Addr}, vs.length = ts.length → OwnS K F H (vs ++ vs') (ts ++ ts') A → ∃ A1 A2, A = A1 ++ A2 ∧ OwnS K F H vs ts A1 ∧ OwnS K F H vs' ts' A2
  | [], [], A, _, h => ⟨[], A, rfl, .nil, h⟩
  | [], t :: ts, _, e, _ => by simp at e
  | v :: vs, [], _, e, _ => by simp at e
  | v :: vs, t :: ts, A, e, h => by
    have e' : vs.length = ts.length := by simpa using e
    cases h with
    | skip q =>
      obtain ⟨A1, A2, rfl, h1, h2⟩ := OwnS.split e' q
      exact ⟨A1, A2, rfl, .skip h1, h2⟩
    | cons h q =>
      obtain ⟨A1, A2, rfl, h1, h2⟩ := OwnS.split e' q
      exact ⟨_ ++ A1, A2, (List.append_assoc _ _ _).symm, .cons h h1, h2⟩
theorem OwnS.ofL {xs : List V} {us : List T} {A : List Addr} : OwnL K F H xs us A → OwnS K F H (xs.map some) (us.map some) A
  | .nil => .nil
  | .cons h q => .cons h (OwnS.ofL q)
theorem OwnS.toL : ∀ {xs : List V} {us : List T} {A : List Addr}, OwnS K F H (xs.map some) (us.map some) A → OwnL K F H xs us A
  | [], [], _, h => by cases h; exact .nil
  | [], _ :: _, _, h => by cases h
  | _ :: _, [], _, h => by cases h
  | x :: xs, u :: us, _, h => by
    cases h with
    | cons h q => exact .cons h (OwnS.toL q)
end
/-- a dict that is being walked, or was: it stands, and is never changed again -/
def Lkd (H : Hp) (a : Addr) (u : HO) : Prop := ∃ (o : Obj) (kvs : List (Key × V)), u = .dK kvs ∧ H a = some (.frz o u)
/-- what is known stands -/
def Sub (F H : Hp) : Prop := ∀ a u, F a = some u → H a = some u ∨ Lkd H a u
/-- what has to stay stays -/
def Bas (B F H : Hp) : Prop := ∀ a u, B a = some u → H a = some u ∨ (F a = some u ∧ Lkd H a u)
theorem Sub.refl (F : Hp) : Sub F F := fun _ _ h => .inl h
theorem Same.sub {F H : Hp} (h : Same F H) : Sub F H := fun a u e => .inl (h a u e)
theorem Sub.tr {F F' H : Hp} (e : Same F F') (h : Sub F' H) : Sub F H := fun a u z => h a u (e a u z)
theorem Lkd.ex {H H' : Hp} {a : Addr} {u : HO} (e : Same H H') (h : Lkd H a u) : Lkd H' a u := by
  obtain ⟨o, kvs, rfl, h⟩ := h
  exact ⟨o, kvs, rfl, e _ _ h⟩
theorem Sub.ex {F H H' : Hp} (h : Sub F H) (e : Same H H') : Sub F H' := fun a u z => (h a u z).imp (e a u) (Lkd.ex e)
theorem Bas.ex {B F H H' : Hp} (h : Bas B F H) (e : Same H H') : Bas B F H' := fun a u z => (h a u z).imp (e a u) (fun q => ⟨q.1, q.2.ex e⟩)
theorem Bas.mono {B F F' H : Hp} (h : Bas B F H) (e : Same F F') : Bas B F' H := fun a u z => (h a u z).imp id (fun q => ⟨e a u q.1, q.2⟩)
theorem Sub.free {F H : Hp} (h : Sub F H) {a : Addr} (e : H a = none) : F a = none := by
  cases q : F a with
  | none => rfl
  | some u =>
    rcases h a u q with z | ⟨o, kvs, _, z⟩ <;> (rw [e] at z; cases z)
theorem Bas.free {B F H : Hp} (h : Bas B F H) {a : Addr} (e : H a = none) : B a = none := by
  cases q : B a with
  | none => rfl
  | some u =>
    rcases h a u q with z | ⟨_, o, kvs, _, z⟩ <;> (rw [e] at z; cases z)
theorem Sub.rd {F H : Hp} (h : Sub F H) {a : Addr} {u : HO} (r : Rd F a u) : Rd H a u := by
  rcases r with r | ⟨o, r⟩
  · rcases h a u r with z | ⟨o, kvs, e, z⟩
    · exact .inl z
    · exact .inr ⟨o, z⟩
  · rcases h a _ r with z | ⟨o', kvs, e, z⟩
    · exact .inr ⟨o, z⟩
    · cases e
theorem Sub.l {F H : Hp} (h : Sub F H) {a : Addr} {xs : List V} (r : F a = some (.lst xs)) : H a = some (.lst xs) := by
  rcases h a _ r with z | ⟨o', kvs, e, z⟩
  · exact z
  · cases e
theorem Sub.t {F H : Hp} (h : Sub F H) {a : Addr} {xs : List V} (r : F a = some (.tup xs)) : H a = some (.tup xs) := by
  rcases h a _ r with z | ⟨o', kvs, e, z⟩
  · exact z
  · cases e
theorem Sub.i {F H : Hp} (h : Sub F H) {a C dx : Addr} {fs : List (Str × V)} (r : F a = some (.ins C dx fs)) : H a = some (.ins C dx fs) := by
  rcases h a _ r with z | ⟨o', kvs, e, z⟩
  · exact z
  · cases e
theorem Sub.sqL {K : PySem.W.Frag} {F H : Hp} (h : Sub F H) {a : Addr} {xs : List V} (r : SqL K F a xs) : SqL K H a xs := by
  rcases r with r | r
  · exact .inl (h.rd r)
  · exact .inr r
mutual
theorem Den.sub {K : PySem.W.Frag} {F F' : Hp} (e : Sub F F') {v : V} {d : D} : Den K F v d → Den K F' v d
  | .non => .non
  | .bl b => .bl b
  | .int i => .int i
  | .str x => .str x
  | .ty n => .ty n
  | .ref a => .ref a
  | .tup h q => .tup (e.t h) (DenL.sub e q)
  | .lst h q => .lst (e.sqL h) (DenL.sub e q)
  | .dic h k q => .dic (e.rd h) k (DenL.sub e q)
  | .dit h k q => .dit (e.rd h) k (DenL.sub e q)
  | .obj h k q => .obj (e.i h) k (DenL.sub e q)
theorem DenL.sub {K : PySem.W.Frag} {F F' : Hp} (e : Sub F F') {xs : List V} {ds : List D} : DenL K F xs ds → DenL K F' xs ds
  | .nil => .nil
  | .cons h q => .cons (Den.sub e h) (DenL.sub e q)
end
/-- THE STATE of a def: slots and what they hold; B: what has to stay as it is; F0: what was known at the begin -/
def RlF (K : PySem.W.Frag) (B F0 F : Hp) (ρ : List (Option T)) (σ : List (Option V)) (H : Hp) : Prop :=
  ∃ (A : List Addr), Same F0 F ∧ Sub F H ∧ Bas B F H ∧ (∀ a o, F a = some o → (∃ u, F0 a = some u) ∨ B a = none) ∧ OwnS K F H σ ρ A ∧ A.Nodup ∧ ∀ a ∈ A, F a = none ∧ B a = none
def Rl (K : PySem.W.Frag) (B F0 : Hp) (ρ : List (Option T)) (σ : List (Option V)) (H : Hp) : Prop := ∃ F : Hp, RlF K B F0 F ρ σ H
theorem none_of_ne {F : Hp} {a : Addr} (h : ∀ o, F a ≠ some o) : F a = none := by
  cases e : F a with
  | none => rfl
  | some o => exact absurd e (h o)
section
variable {K : PySem.W.Frag} {B F0 H H' : Hp} {ρ ρ' st : List (Option T)} {σ σ' vst : List (Option V)} {t : T} {v : V} {d : D} {p : Addr}
theorem Rl.len (h : Rl K B F0 ρ σ H) : σ.length = ρ.length := by
  obtain ⟨_, _, _, _, _, _, o, _, _⟩ := h
  exact o.len
/-- more on the heap -/
theorem Rl.heap (h : Rl K B F0 ρ σ H) (e : Same H H') : Rl K B F0 ρ σ H' := by
  obtain ⟨F, A, e0, e1, e2, dm, o, nd, fr⟩ := h
  exact ⟨F, A, e0, e1.ex e, e2.ex e, dm, o.mono (Same.refl _) (fun a _ u q => e a u q), nd, fr⟩
/-- a slot's rows in another order -/
theorem Rl.swap {ρ1 ρ2 ρ3 : List (Option T)} {σ1 σ2 σ3 : List (Option V)} (l1 : σ1.length = ρ1.length) (l2 : σ2.length = ρ2.length) (h : Rl K B F0 (ρ1 ++ (ρ2 ++ ρ3)) (σ1 ++ (σ2 ++ σ3)) H) : Rl K B F0 (ρ2 ++ (ρ1 ++ ρ3)) (σ2 ++ (σ1 ++ σ3)) H := by
  obtain ⟨F, A, e0, e1, e2, dm, o, nd, fr⟩ := h
  obtain ⟨A1, A', rfl, o1, o'⟩ := o.split l1
  obtain ⟨A2, A3, rfl, o2, o3⟩ := o'.split l2
  have pm : (A2 ++ (A1 ++ A3)).Perm (A1 ++ (A2 ++ A3)) := by
    rw [← List.append_assoc, ← List.append_assoc]
    exact List.Perm.append_right _ List.perm_append_comm
  exact ⟨F, A2 ++ (A1 ++ A3), e0, e1, e2, dm, o2.append (o1.append o3), pm.nodup_iff.mpr nd, fun a ha => fr a (pm.mem_iff.mp ha)⟩
theorem Rl.dropN {ρ1 ρ2 : List (Option T)} {σ1 σ2 : List (Option V)} (l1 : σ1.length = ρ1.length) (h : Rl K B F0 (ρ1 ++ ρ2) (σ1 ++ σ2) H) : Rl K B F0 ρ2 σ2 H := by
  obtain ⟨F, A, e0, e1, e2, dm, o, nd, fr⟩ := h
  obtain ⟨A1, A2, rfl, o1, o2⟩ := o.split l1
  exact ⟨F, A2, e0, e1, e2, dm, o2, (List.nodup_append.mp nd).2.1, fun a ha => fr a (List.mem_append_right _ ha)⟩
theorem Rl.drop {x : Option T} {y : Option V} (h : Rl K B F0 (x :: ρ) (y :: σ) H) : Rl K B F0 ρ σ H := Rl.dropN (ρ1 := [x]) (σ1 := [y]) rfl h
/-- let go what is at the head -/
theorem Rl.freeze (h : Rl K B F0 (some t :: ρ) (some v :: σ) H) : Rl K B F0 (some (.v t.d) :: ρ) (some v :: σ) H := by
  obtain ⟨F, A, e0, e1, e2, dm, o, nd, fr⟩ := h
  cases o with
  | @cons _ _ _ _ A1 A2 o1 o2 =>
    classical
    let F' : Hp := fun a => if a ∈ A1 then H a else F a
    have m1 : ∀ a ∈ A1, F' a = H a := fun a ha => if_pos ha
    have m2 : ∀ a, a ∉ A1 → F' a = F a := fun a ha => if_neg ha
    obtain ⟨n1, n2, n3⟩ := List.nodup_append.mp nd
    have eF : Same F F' := fun a u e => by
      by_cases ha : a ∈ A1
      · rw [(fr a (List.mem_append_left _ ha)).1] at e; cases e
      · rw [m2 a ha]; exact e
    have eH : Sub F' H := fun a u e => by
      by_cases ha : a ∈ A1
      · rw [m1 a ha] at e; exact .inl e
      · rw [m2 a ha] at e; exact e1 a u e
    have o2' : OwnS K F' H σ ρ A2 := o2.mono eF fun a _ u q => q
    refine ⟨F', A2, e0.trans eF, eH, e2.mono eF, fun a u e => ?_, ?_, n2, fun a ha => ?_⟩
    · by_cases ha : a ∈ A1
      · exact .inr (fr a (List.mem_append_left _ ha)).2
      · rw [m2 a ha] at e; exact dm a u e
    · have := OwnS.cons (A := []) (.v (o1.den eF fun a ha u q => by rw [m1 a ha]; exact q)) o2'
      exact this
    · have hn : a ∉ A1 := fun h1 => n3 a h1 a ha rfl
      rw [m2 a hn]
      exact fr a (List.mem_append_right _ ha)
theorem Rl.freezeN {ts : List T} {vs : List V} (h : Rl K B F0 (ts.map some ++ ρ) (vs.map some ++ σ) H) (hl : vs.length = ts.length) : Rl K B F0 ((ts.map fun t => some (.v t.d)) ++ ρ) (vs.map some ++ σ) H := by
  induction ts generalizing vs ρ σ with
  | nil =>
    cases vs with
    | nil => exact h
    | cons _ _ => simp at hl
  | cons t ts ih =>
    cases vs with
    | nil => simp at hl
    | cons v vs =>
      have hl' : vs.length = ts.length := by simpa using hl
      have h1 : Rl K B F0 (some t :: (ts.map some ++ ρ)) (some v :: (vs.map some ++ σ)) H := h
      have h2 := Rl.swap (ρ1 := [some (.v t.d)]) (σ1 := [some v]) (ρ2 := ts.map some) (σ2 := vs.map some) rfl (by simp [hl']) h1.freeze
      have h3 := ih h2 hl'
      exact Rl.swap (ρ1 := ts.map fun t => some (.v t.d)) (σ1 := vs.map some) (ρ2 := [some (.v t.d)]) (σ2 := [some v]) (by simp [hl']) rfl h3
/-- plain data at the head, whatever is known -/
theorem Rl.pushS (h : Rl K B F0 ρ σ H) (hd : ∀ F, Den K F v d) : Rl K B F0 (some (.v d) :: ρ) (some v :: σ) H := by
  obtain ⟨F, A, e0, e1, e2, dm, o, nd, fr⟩ := h
  exact ⟨F, A, e0, e1, e2, dm, OwnS.cons (A := []) (.v (hd F)) o, nd, fr⟩
theorem OwnS.at {F : Hp} {A : List Addr} {i : Nat} {t : T} (h : OwnS K F H σ ρ A) (e : ρ[i]? = some (some t)) : ∃ v A1 A2 A3, σ[i]? = some (some v) ∧ A = A1 ++ (A2 ++ A3) ∧ Own K F H v t A2 ∧ (∀ (F' H' : Hp) (v' : V) (t' : T) (A' : List Addr), Same F F' → (∀ a ∈ A1 ++ A3, ∀ o, H a = some o → H' a = some o) → Own K F' H' v' t' A' → OwnS K F' H' (σ.set i (some v')) (ρ.set i (some t')) (A1 ++ (A' ++ A3))) ∧
    (∀ y : Option V, OwnS K F H (σ.set i y) (ρ.set i none) (A1 ++ A3)) := by
  induction h generalizing i with
  | nil => simp at e
  | @skip x vs ts A _ ih =>
    cases i with
    | zero => simp at e
    | succ i =>
      obtain ⟨v, A1, A2, A3, e1, e2, o, k, k0⟩ := ih (i := i) (by simpa using e)
      exact ⟨v, A1, A2, A3, by simpa using e1, e2, o, fun F' H' v' t' A' eF hk ho => .skip (k F' H' v' t' A' eF hk ho), fun y => .skip (k0 y)⟩
  | @cons w u vs ts A B' ho hs ih =>
    cases i with
    | zero =>
      simp at e; subst e
      refine ⟨w, [], A, B', rfl, rfl, ho, fun F' H' v' t' A' eF hk ho' => ?_, fun y => .skip hs⟩
      exact OwnS.cons (A := A') (B := B') ho' (hs.mono eF fun a ha => hk a (by simpa using ha))
    | succ i =>
      obtain ⟨v, A1, A2, A3, e1, e2, o, k, k0⟩ := ih (i := i) (by simpa using e)
      refine ⟨v, A ++ A1, A2, A3, by simpa using e1, by rw [e2, List.append_assoc], o, fun F' H' v' t' A' eF hk ho' => ?_, fun y => ?_⟩
      · rw [List.append_assoc]
        exact .cons (ho.mono eF fun a ha => hk a (by simp [ha])) (k F' H' v' t' A' eF (fun a ha => hk a (by rcases List.mem_append.mp ha with z | z <;> simp [z])) ho')
      · rw [List.append_assoc]
        exact .cons ho (k0 y)
/-- a slot that holds plain data, read -/
theorem Rl.get {i : Nat} (h : Rl K B F0 (st ++ ρ) (vst ++ σ) H) (hl : vst.length = st.length) (e : ρ[i]? = some (some (.v d))) : ∃ v, σ[i]? = some (some v) ∧ Rl K B F0 (some (.v d) :: (st ++ ρ)) (some v :: (vst ++ σ)) H := by
  obtain ⟨F, A, e0, e1, e2, dm, o, nd, fr⟩ := h
  obtain ⟨A1, A2, rfl, o1, o2⟩ := id (o.split hl)
  obtain ⟨v, _, _, _, e3, _, o3, _⟩ := o2.at e
  cases o3 with
  | v hd => exact ⟨v, e3, F, _, e0, e1, e2, dm, OwnS.cons (A := []) (.v hd) o, nd, fr⟩
/-- a slot is given what is at the head -/
theorem Rl.setS {i : Nat} (h : Rl K B F0 (some t :: ρ) (some v :: σ) H) : Rl K B F0 (ρ.set i (some t)) (σ.set i (some v)) H := by
  obtain ⟨F, A, e0, e1, e2, dm, o, nd, fr⟩ := h
  cases o with
  | @cons _ _ _ _ A1 A2 o1 o2 =>
    by_cases hi : i < ρ.length
    · cases hx : ρ[i]? with
      | none => exact absurd hi (Nat.not_lt.mpr (List.getElem?_eq_none_iff.mp hx))
      | some x =>
        cases x with
        | none =>
          -- the slot held nothing that is known
          have key : ∀ {vs : List (Option V)} {ts : List (Option T)} {i : Nat} {A2 : List Addr}, OwnS K F H vs ts A2 → ts[i]? = some none → ∃ A3 A4, A2 = A3 ++ A4 ∧ OwnS K F H (vs.set i (some v)) (ts.set i (some t)) (A3 ++ (A1 ++ A4)) := by
            intro vs ts i A2 h
            induction h generalizing i with
            | nil => intro e; simp at e
            | @skip x vs ts A hs ih =>
              intro e
              cases i with
              | zero => exact ⟨[], A, rfl, OwnS.cons (A := A1) (B := A) o1 hs⟩
              | succ i =>
                obtain ⟨A3, A4, e2, o⟩ := ih (i := i) (by simpa using e)
                exact ⟨A3, A4, e2, .skip o⟩
            | @cons w u vs ts A B' ho hs ih =>
              intro e
              cases i with
              | zero => simp at e
              | succ i =>
                obtain ⟨A3, A4, e2, o⟩ := ih (i := i) (by simpa using e)
                refine ⟨A ++ A3, A4, by rw [e2, List.append_assoc], ?_⟩
                rw [List.append_assoc]
                exact .cons ho o
          obtain ⟨A3, A4, rfl, o3⟩ := key o2 hx
          have pm : (A3 ++ (A1 ++ A4)).Perm (A1 ++ (A3 ++ A4)) := by
            rw [← List.append_assoc, ← List.append_assoc]
            exact List.Perm.append_right _ List.perm_append_comm
          exact ⟨F, _, e0, e1, e2, dm, o3, pm.nodup_iff.mpr nd, fun a ha => fr a (pm.mem_iff.mp ha)⟩
        | some u =>
          obtain ⟨w, A3, A4, A5, _, rfl, _, k, _⟩ := o2.at hx
          have o3 := k F H v t A1 (Same.refl _) (fun a _ o q => q) o1
          have sub : List.Sublist (A1 ++ (A3 ++ A5)) (A1 ++ (A3 ++ (A4 ++ A5))) := by
            refine List.Sublist.append (List.Sublist.refl _) (List.Sublist.append (List.Sublist.refl _) (List.sublist_append_right _ _))
          have pm : (A3 ++ (A1 ++ A5)).Perm (A1 ++ (A3 ++ A5)) := by
            rw [← List.append_assoc, ← List.append_assoc]
            exact List.Perm.append_right _ List.perm_append_comm
          exact ⟨F, _, e0, e1, e2, dm, o3, pm.nodup_iff.mpr (nd.sublist sub), fun a ha => fr a (sub.subset (pm.mem_iff.mp ha))⟩
    · have l1 : ρ.set i (some t) = ρ := List.set_eq_of_length_le (Nat.not_lt.mp hi)
      have l2 : σ.set i (some v) = σ := List.set_eq_of_length_le (by rw [o2.len]; exact Nat.not_lt.mp hi)
      rw [l1, l2]
      exact ⟨F, A2, e0, e1, e2, dm, o2, (List.nodup_append.mp nd).2.1, fun a ha => fr a (List.mem_append_right _ ha)⟩
/-- a new tuple of plain data -/
theorem Rl.newTup {ds : List D} {vs : List V} (h : Rl K B F0 ((ds.map fun d => some (.v d)) ++ ρ) (vs.map some ++ σ) H) (hl : vs.length = ds.length) (hp : H p = none) : Rl K B F0 (some (.v (.tup ds)) :: ρ) (some (.ref p) :: σ) (upd H p (.tup vs)) := by
  obtain ⟨F, A, e0, e1, e2, dm, o, nd, fr⟩ := h
  obtain ⟨A1, A2, rfl, o1, o2⟩ := o.split (by simpa using hl)
  have hF : F p = none := e1.free hp
  have hB : B p = none := e2.free hp
  have key : ∀ {ds : List D} {vs : List V} {A1 : List Addr}, OwnS K F H (vs.map some) (ds.map fun d => some (T.v d)) A1 → A1 = [] ∧ DenL K F vs ds := by
    intro ds
    induction ds with
    | nil =>
      intro vs A1 h
      cases vs with
      | nil => cases h; exact ⟨rfl, .nil⟩
      | cons _ _ => cases h
    | cons d ds ih =>
      intro vs A1 h
      cases vs with
      | nil => cases h
      | cons v vs =>
        cases h with
        | cons h1 h2 =>
          obtain ⟨rfl, q⟩ := ih h2
          cases h1 with
          | v hd => exact ⟨rfl, .cons hd q⟩
  obtain ⟨rfl, q⟩ := key o1
  have eF : Same F (upd F p (.tup vs)) := fun a u e => by rw [upd_ne (ne_of_none e hF)]; exact e
  have kp : Same H (upd H p (.tup vs)) := fun a u e => by rw [upd_ne (ne_of_none e hp)]; exact e
  refine ⟨upd F p (.tup vs), A2, e0.trans eF, fun a u e => ?_, fun a u e => ?_, fun a u e => ?_, ?_, (List.nodup_append.mp nd).2.1, fun a ha => ?_⟩
  · by_cases hap : a = p
    · subst hap; rw [upd_same] at e; exact .inl (by rw [upd_same]; exact e)
    · rw [upd_ne hap] at e; exact (e1.ex kp) a u e
  · exact ((e2.ex kp).mono eF) a u e
  · by_cases hap : a = p
    · subst hap; exact .inr hB
    · rw [upd_ne hap] at e; exact dm a u e
  · refine OwnS.cons (A := []) (.v (.tup upd_same (q.mono eF))) (o2.mono eF fun a ha u e => ?_)
    obtain ⟨w, hw⟩ := o2.there a ha
    rw [upd_ne (ne_of_none hw hp)]; exact e
  · obtain ⟨w, hw⟩ := o2.there a ha
    obtain ⟨z1, z2⟩ := fr a (List.mem_append_right _ ha)
    rw [upd_ne (ne_of_none hw hp)]
    exact ⟨z1, z2⟩
/-- a new owned object -/
theorem Rl.newOwn {ts : List T} {vs : List V} {o : HO} {t : T} (h : Rl K B F0 (ts.map some ++ ρ) (vs.map some ++ σ) H) (hl : vs.length = ts.length) (hp : H p = none)
    (mk : ∀ (F H' : Hp) (A : List Addr), H' p = some o → OwnL K F H' vs ts A → Own K F H' (.ref p) t (p :: A)) : Rl K B F0 (some t :: ρ) (some (.ref p) :: σ) (upd H p o) := by
  obtain ⟨F, A, e0, e1, e2, dm, os, nd, fr⟩ := h
  obtain ⟨A1, A2, rfl, o1, o2⟩ := os.split (by simpa using hl)
  have hF : F p = none := e1.free hp
  have hB : B p = none := e2.free hp
  have kp : ∀ a u, H a = some u → upd H p o a = some u := fun a u e => by rw [upd_ne (ne_of_none e hp)]; exact e
  have np : p ∉ A1 ++ A2 := fun hm => by
    obtain ⟨w, hw⟩ := (o1.append o2).there p hm
    rw [hp] at hw; cases hw
  refine ⟨F, p :: A1 ++ A2, e0, e1.ex kp, e2.ex kp, dm, ?_, ?_, fun a ha => ?_⟩
  · exact .cons (mk F _ A1 upd_same ((OwnS.toL o1).mono (Same.refl _) fun a _ u q => kp a u q)) (o2.mono (Same.refl _) fun a _ u q => kp a u q)
  · exact List.nodup_cons.mpr ⟨np, nd⟩
  · rcases List.mem_cons.mp ha with e | ha
    · rw [e]; exact ⟨hF, hB⟩
    · exact fr a ha
theorem Rl.newLst {ts : List T} {vs : List V} (h : Rl K B F0 (ts.map some ++ ρ) (vs.map some ++ σ) H) (hl : vs.length = ts.length) (hp : H p = none) : Rl K B F0 (some (.lst ts) :: ρ) (some (.ref p) :: σ) (upd H p (.lst vs)) :=
  h.newOwn hl hp fun F H' A e o => .lst e o
end
end Vl
end
section
set_option maxRecDepth 100000
namespace Vl
open PySem L2
/-! ### what is universally read -/
def tE (X : Cx) (e : Expr) : TE := fun σ H Q => ∃ t, PE X e t ∧ t σ H Q
def tTt (X : Cx) (e : Expr) : TT := fun σ H Q => ∃ t, PT X e t ∧ t σ H Q
def tA (X : Cx) (es : List Expr) : TA := fun σ H Q => ∃ t, PA X es t ∧ t σ H Q
theorem pe_u (X : Cx) (e : Expr) : PE X e (tE X e) := ⟨fun pins s σ H Q I h => let ⟨_, p, q⟩ := h; p.run pins s σ H Q I q⟩
theorem pt_u (X : Cx) (e : Expr) : PT X e (tTt X e) := ⟨fun pins s σ H Q I h => let ⟨_, p, q⟩ := h; p.run pins s σ H Q I q⟩
theorem pa_u (X : Cx) (es : List Expr) : PA X es (tA X es) := ⟨fun pos pins s σ H Q I h => let ⟨_, p, q⟩ := h; p.run pos pins s σ H Q I q⟩
abbrev Rho := List (Option T)
/-- e gives r; behind it the slots are as ρ' says -/
def Ev (X : Cx) (e : Expr) (ρ : Rho) (r : T) (ρ' : Rho) : Prop :=
  ∀ (B F0 : Hp) (st : Rho) (vst : St) (σ : St) (H : Hp) (Q : VK), vst.length = st.length → Rl X.K B F0 (st ++ ρ) (vst ++ σ) H →
    (∀ v H', Rl X.K B F0 (some r :: (st ++ ρ')) (some v :: (vst ++ σ)) H' → Q v H') → tE X e σ H Q
/-- a test -/
def Tv (X : Cx) (e : Expr) (ρ : Rho) (b : Bool) (ρ' : Rho) : Prop :=
  ∀ (B F0 : Hp) (st : Rho) (vst : St) (σ : St) (H : Hp) (Q : Bool → Hp → Prop), vst.length = st.length → Rl X.K B F0 (st ++ ρ) (vst ++ σ) H →
    (∀ H', Rl X.K B F0 (st ++ ρ') (vst ++ σ) H' → Q b H') → tTt X e σ H Q
/-- arguments -/
def EvA (X : Cx) (es : List Expr) (ρ : Rho) (rs : List T) (ρ' : Rho) : Prop :=
  ∀ (B F0 : Hp) (st : Rho) (vst : St) (σ : St) (H : Hp) (Q : List V → Hp → Prop), vst.length = st.length → Rl X.K B F0 (st ++ ρ) (vst ++ σ) H →
    (∀ vs H', vs.length = rs.length → Rl X.K B F0 (rs.map some ++ (st ++ ρ')) (vs.map some ++ (vst ++ σ)) H' → Q vs H') → tA X es σ H Q
section
variable {K : PySem.W.Frag} {B F0 H H' : Hp} {ρ st : Rho} {σ vst : St} {v u : V} {d : D} {t : T} {p : Addr}
theorem Rl.den (h : Rl K B F0 (some (.v d) :: ρ) (some v :: σ) H) : Den K H v d := by
  obtain ⟨F, A, e0, e1, e2, dm, o, nd, fr⟩ := h
  cases o with
  | cons o1 o2 =>
    cases o1 with
    | v hd => exact hd.sub e1
theorem Rl.denN {ds : List D} {vs : List V} (h : Rl K B F0 ((ds.map fun d => some (.v d)) ++ ρ) (vs.map some ++ σ) H) (hl : vs.length = ds.length) : DenL K H vs ds := by
  induction ds generalizing vs ρ σ with
  | nil =>
    cases vs with
    | nil => exact .nil
    | cons _ _ => simp at hl
  | cons d ds ih =>
    cases vs with
    | nil => simp at hl
    | cons v vs =>
      have h1 : Rl K B F0 (some (.v d) :: ((ds.map fun d => some (.v d)) ++ ρ)) (some v :: (vs.map some ++ σ)) H := h
      exact .cons h1.den (ih h1.drop (by simpa using hl))
end
section
variable {X : Cx} {e a b c : Expr} {es : List Expr} {ρ ρ1 ρ2 ρ3 : Rho} {d x y z : D} {r : T} {pos p : Pos} {i : Nat}
theorem Ev.imp {ρ' : Rho} (h : Ev X e ρ r ρ1) (k : ρ1 = ρ') : Ev X e ρ r ρ' := by subst k; exact h
theorem Ev.val {r' : T} (h : Ev X e ρ r ρ1) (k : r = r') : Ev X e ρ r' ρ1 := by subst k; exact h
theorem ev_of {t : TE} (ht : PE X e t) (h : ∀ (B F0 : Hp) (st : Rho) (vst : St) (σ : St) (H : Hp) (Q : VK), vst.length = st.length → Rl X.K B F0 (st ++ ρ) (vst ++ σ) H →
    (∀ v H', Rl X.K B F0 (some r :: (st ++ ρ1)) (some v :: (vst ++ σ)) H' → Q v H') → t σ H Q) : Ev X e ρ r ρ1 := fun B F0 st vst σ H Q hl R k => ⟨t, ht, h B F0 st vst σ H Q hl R k⟩
/-- let go -/
theorem ev_frz (h : Ev X e ρ r ρ1) : Ev X e ρ (.v r.d) ρ1 := fun B F0 st vst σ H Q hl R k => h B F0 st vst σ H Q hl R fun v H' R' => k v H' R'.freeze
/-! ### constants and names -/
theorem ev_int {n : Int} {j} : Ev X (.Constant (.int n) j pos) ρ (.v (.int n)) ρ := ev_of pe_int fun B F0 st vst σ H Q hl R k => k _ H (R.pushS fun _ => .int n)
theorem ev_bl {n : Bool} {j} : Ev X (.Constant (.bool n) j pos) ρ (.v (.bl n)) ρ := ev_of pe_bl fun B F0 st vst σ H Q hl R k => k _ H (R.pushS fun _ => .bl n)
theorem ev_non {j} : Ev X (.Constant .none j pos) ρ (.v .non) ρ := ev_of pe_non fun B F0 st vst σ H Q hl R k => k _ H (R.pushS fun _ => .non)
theorem ev_str {n : Str} {j} : Ev X (.Constant (.str n) j pos) ρ (.v (.str n)) ρ := ev_of pe_str fun B F0 st vst σ H Q hl R k => k _ H (R.pushS fun _ => .str n)
theorem ev_var {x : Str} (i : Nat) (hr : ρ[i]? = some (some (.v d)) := by rfl) (hN : X.N[i]? = some x := by rfl) (hv : Vis X.env.scope x := by first | exact Or.inl rfl | exact Or.inr (Or.inl rfl) | exact Or.inr (Or.inr rfl)) (hd : (x == ("__debug__" : Str)) = false := by decide)
    (hcd : (x == ("__classdict__" : Str)) = false := by decide) : Ev X (.Name x pos) ρ (.v d) ρ := ev_of (pe_var hN hv hd hcd) fun B F0 st vst σ H Q hl R k => by
  obtain ⟨v, e1, R1⟩ := R.get hl hr
  exact ⟨v, e1, k v H R1⟩
/-- a module's constant (an int, a text), a class or function as a value -/
theorem ev_glob {x : Str} {v : V} {u : Value} (hg : Gl X x) (hm : X.mg x = some u) (rv : RelV v u) (hd : ∀ F, Den X.K F v d) (hdb : (x == ("__debug__" : Str)) = false := by decide) : Ev X (.Name x pos) ρ (.v d) ρ :=
  ev_of (pe_glob hg hm rv hdb) fun B F0 st vst σ H Q hl R k => k _ H (R.pushS hd)
end
theorem set_self {α : Type} : ∀ {l : List α} {i : Nat} {x : α}, l[i]? = some x → l.set i x = l
  | [], _, _, h => by simp at h
  | a :: l, 0, x, h => by simp at h; simp [h]
  | a :: l, i + 1, x, h => by simp only [List.set_cons_succ]; rw [set_self (i := i) (by simpa using h)]
section
variable {X : Cx} {K : PySem.W.Frag} {B F0 H H' : Hp} {ρ ρ1 st : Rho} {σ vst : St} {v u : V} {d : D} {t : T} {p : Addr} {i : Nat}
/-- a slot with owned data, let go and read -/
theorem Rl.getFrz (h : Rl K B F0 (st ++ ρ) (vst ++ σ) H) (hl : vst.length = st.length) (e : ρ[i]? = some (some t)) : ∃ v, σ[i]? = some (some v) ∧ Rl K B F0 (some (.v t.d) :: (st ++ ρ.set i (some (.v t.d)))) (some v :: (vst ++ σ)) H := by
  obtain ⟨F, A, e0, e1, e2, dm, o, nd, fr⟩ := h
  obtain ⟨A1, A2, rfl, o1, o2⟩ := o.split hl
  obtain ⟨v, B1, B2, B3, e3, rfl, o3, k, _⟩ := o2.at e
  classical
  let F' : Hp := fun a => if a ∈ B2 then H a else F a
  have m1 : ∀ a ∈ B2, F' a = H a := fun a ha => if_pos ha
  have m2 : ∀ a, a ∉ B2 → F' a = F a := fun a ha => if_neg ha
  obtain ⟨n1, n2, n3⟩ := List.nodup_append.mp nd
  obtain ⟨n4, n5, n6⟩ := List.nodup_append.mp n2
  obtain ⟨n7, n8, n9⟩ := List.nodup_append.mp n5
  have eF : Same F F' := fun a u z => by
    by_cases ha : a ∈ B2
    · rw [(fr a (by simp [ha])).1] at z; cases z
    · rw [m2 a ha]; exact z
  have eH : Sub F' H := fun a u z => by
    by_cases ha : a ∈ B2
    · rw [m1 a ha] at z; exact .inl z
    · rw [m2 a ha] at z; exact e1 a u z
  have hd : Den K F' v t.d := o3.den eF fun a ha u q => by rw [m1 a ha]; exact q
  have es : σ.set i (some v) = σ := set_self e3
  have o4 := k F' H v (.v t.d) [] eF (fun a _ u q => q) (.v hd)
  rw [es] at o4
  have o5 := (o1.mono eF fun a _ u q => q).append o4
  have sub : List.Sublist (A1 ++ (B1 ++ ([] ++ B3))) (A1 ++ (B1 ++ (B2 ++ B3))) :=
    List.Sublist.append (List.Sublist.refl _) (List.Sublist.append (List.Sublist.refl _) (List.Sublist.append (List.nil_sublist _) (List.Sublist.refl _)))
  refine ⟨v, e3, F', _, e0.trans eF, eH, e2.mono eF, fun a u z => ?_, OwnS.cons (A := []) (.v hd) o5, nd.sublist sub, fun a ha => ?_⟩
  · by_cases hb : a ∈ B2
    · exact .inr (fr a (by simp [hb])).2
    · rw [m2 a hb] at z; exact dm a u z
  · have ha' := sub.subset (by simpa using ha)
    have hn : a ∉ B2 := fun hb => by
      rcases List.mem_append.mp (show a ∈ A1 ++ (B1 ++ ([] ++ B3)) by simpa using ha) with q | q
      · exact n3 a q a (by simp [hb]) rfl
      · rcases List.mem_append.mp q with q | q
        · exact n6 a q a (by simp [hb]) rfl
        · exact n9 a hb a (by simpa using q) rfl
    rw [m2 a hn]
    exact fr a ha'
/-- a slot with owned data, its parts seen -/
theorem Rl.slot (h : Rl K B F0 (st ++ ρ) (vst ++ σ) H) (hl : vst.length = st.length) (e : ρ[i]? = some (some t)) : ∃ v F A, σ[i]? = some (some v) ∧ Own K F H v t A ∧ Sub F H ∧ ∀ w d, Den K F w d → Rl K B F0 (some (.v d) :: (st ++ ρ)) (some w :: (vst ++ σ)) H := by
  obtain ⟨F, A, e0, e1, e2, dm, o, nd, fr⟩ := h
  obtain ⟨A1, A2, rfl, o1, o2⟩ := id (o.split hl)
  obtain ⟨v, B1, B2, B3, e3, rfl, o3, k, _⟩ := o2.at e
  exact ⟨v, F, B2, e3, o3, e1, fun w d hw => ⟨F, _, e0, e1, e2, dm, OwnS.cons (A := []) (.v hw) o, nd, fr⟩⟩
/-- what is at the head, its parts seen -/
theorem Rl.elim (h : Rl K B F0 (some (.v d) :: ρ) (some v :: σ) H) : ∃ F, Sub F H ∧ Den K F v d ∧ ∀ w d', Den K F w d' → Rl K B F0 (some (.v d') :: ρ) (some w :: σ) H := by
  obtain ⟨F, A, e0, e1, e2, dm, o, nd, fr⟩ := h
  cases o with
  | cons o1 o2 =>
    cases o1 with
    | v hd => exact ⟨F, e1, hd, fun w d' hw => ⟨F, _, e0, e1, e2, dm, OwnS.cons (A := []) (.v hw) o2, nd, fr⟩⟩
theorem OwnS.allv {F : Hp} : ∀ {ds : List D} {vs : List V} {A : List Addr}, OwnS K F H (vs.map some) (ds.map fun d => some (T.v d)) A → A = [] ∧ DenL K F vs ds
  | [], [], _, h => by cases h; exact ⟨rfl, .nil⟩
  | [], _ :: _, _, h => by cases h
  | _ :: _, [], _, h => by cases h
  | d :: ds, v :: vs, _, h => by
    cases h with
    | cons h1 h2 =>
      obtain ⟨rfl, q⟩ := OwnS.allv h2
      cases h1 with
      | v hd => exact ⟨rfl, .cons hd q⟩
theorem OwnL.ofDen {F : Hp} : ∀ {ds : List D} {vs : List V}, DenL K F vs ds → OwnL K F H vs (ds.map T.v) []
  | _, _, .nil => .nil
  | _, _, .cons h q => OwnL.cons (A := []) (.v h) (OwnL.ofDen q)
/-- several at the head; new things laid of what is known -/
theorem Rl.elimN {ds : List D} {vs : List V} (h : Rl K B F0 ((ds.map fun d => some (.v d)) ++ ρ) (vs.map some ++ σ) H) (hl : vs.length = ds.length) : ∃ F, Sub F H ∧ DenL K F vs ds ∧ (∀ w d', Den K F w d' → Rl K B F0 (some (.v d') :: ρ) (some w :: σ) H) ∧
    (∀ (us : List V) (es : List D) (p : Addr), DenL K F us es → H p = none → Rl K B F0 (some (.lst (es.map T.v)) :: ρ) (some (.ref p) :: σ) (upd H p (.lst us))) ∧
    (∀ (us : List V) (es : List D) (p : Addr), DenL K F us es → H p = none → Rl K B F0 (some (.v (.tup es)) :: ρ) (some (.ref p) :: σ) (upd H p (.tup us))) := by
  obtain ⟨F, A, e0, e1, e2, dm, o, nd, fr⟩ := h
  obtain ⟨A1, A2, rfl, o1, o2⟩ := o.split (by simpa using hl)
  obtain ⟨rfl, q⟩ := OwnS.allv o1
  have nd2 := (List.nodup_append.mp nd).2.1
  have fr2 : ∀ a ∈ A2, F a = none ∧ B a = none := fun a ha => fr a (by simpa using ha)
  refine ⟨F, e1, q, fun w d' hw => ⟨F, _, e0, e1, e2, dm, OwnS.cons (A := []) (.v hw) o2, nd2, fr2⟩, fun us es p hu hp => ?_, fun us es p hu hp => ?_⟩
  · have R : Rl K B F0 ((es.map T.v).map some ++ ρ) (us.map some ++ σ) H := ⟨F, A2, e0, e1, e2, dm, by
      have := (OwnS.ofL (OwnL.ofDen (H := H) hu)).append o2
      simpa using this, nd2, fr2⟩
    exact R.newLst (by simp [hu.length]) hp
  · have R : Rl K B F0 ((es.map fun d => some (.v d)) ++ ρ) (us.map some ++ σ) H := ⟨F, A2, e0, e1, e2, dm, by
      have := (OwnS.ofL (OwnL.ofDen (H := H) hu)).append o2
      simpa [List.map_map, Function.comp_def] using this, nd2, fr2⟩
    exact R.newTup hu.length hp
theorem Rl.headI {n : Int} (h : Rl K B F0 (some (.v (.int n)) :: ρ) (some v :: σ) H) : v = .int n := by cases h.den; rfl
theorem Rl.headB {n : Bool} (h : Rl K B F0 (some (.v (.bl n)) :: ρ) (some v :: σ) H) : v = .bl n := by cases h.den; rfl
theorem Rl.headS {n : Str} (h : Rl K B F0 (some (.v (.str n)) :: ρ) (some v :: σ) H) : v = .str n := by cases h.den; rfl
end
section
variable {X : Cx} {e a b c : Expr} {es : List Expr} {ρ ρ1 ρ2 ρ3 : Rho} {d x y z : D} {r : T} {t : T} {pos p p2 : Pos} {i : Nat}
theorem ev_varF {x : Str} (i : Nat) (hr : ρ[i]? = some (some t) := by rfl) (hN : X.N[i]? = some x := by rfl) (hv : Vis X.env.scope x := by first | exact Or.inl rfl | exact Or.inr (Or.inl rfl) | exact Or.inr (Or.inr rfl)) (hd : (x == ("__debug__" : Str)) = false := by decide)
    (hcd : (x == ("__classdict__" : Str)) = false := by decide) : Ev X (.Name x pos) ρ (.v t.d) (ρ.set i (some (.v t.d))) := ev_of (pe_var hN hv hd hcd) fun B F0 st vst σ H Q hl R k => by
  obtain ⟨v, e1, R1⟩ := R.getFrz hl hr
  exact ⟨v, e1, k v H R1⟩
/-! ### operators with plain answers -/
theorem ev_op {op : Operator} {q : R2} (ho : OpR X (binaryOp op) q) (ha : Ev X a ρ (.v x) ρ1) (hb : Ev X b ρ1 (.v y) ρ2)
    (hr : ∀ (H : Hp) (v u : V) (Q : VK), Den X.K H v x → Den X.K H u y → (∀ w, (∀ F, Den X.K F w z) → Q w H) → q v u H Q) : Ev X (.BinOp a op b pos) ρ (.v z) ρ2 :=
  ev_of (pe_op ho (pe_u X a) (pe_u X b)) fun B F0 st vst σ H Q hl R k => ha B F0 st vst σ H _ hl R fun v H1 R1 => hb B F0 (some (.v x) :: st) (some v :: vst) σ H1 _ (by simp [hl]) R1 fun u H2 R2 =>
    hr H2 v u Q R2.drop.den R2.den fun w hw => k w H2 (R2.drop.drop.pushS hw)
theorem ev_cmp {op : CmpOp} {q : R2} (ho : OpR X (compareOp op) q) (ha : Ev X a ρ (.v x) ρ1) (hb : Ev X b ρ1 (.v y) ρ2) (hm : behindInMarks op b = false)
    (hr : ∀ (H : Hp) (v u : V) (Q : VK), Den X.K H v x → Den X.K H u y → (∀ w, (∀ F, Den X.K F w z) → Q w H) → q v u H Q) : Ev X (.Compare a [op] [b] pos) ρ (.v z) ρ2 :=
  ev_of (pe_cmpR ho (pe_u X a) (pe_u X b) hm) fun B F0 st vst σ H Q hl R k => ha B F0 st vst σ H _ hl R fun v H1 R1 => hb B F0 (some (.v x) :: st) (some v :: vst) σ H1 _ (by simp [hl]) R1 fun u H2 R2 =>
    hr H2 v u Q R2.drop.den R2.den fun w hw => k w H2 (R2.drop.drop.pushS hw)
theorem den_ii {K : PySem.W.Frag} {H : Hp} {v u : V} {i j : Int} (hv : Den K H v (.int i)) (hu : Den K H u (.int j)) : v = .int i ∧ u = .int j := by cases hv; cases hu; exact ⟨rfl, rfl⟩
theorem den_ss {K : PySem.W.Frag} {H : Hp} {v u : V} {i j : Str} (hv : Den K H v (.str i)) (hu : Den K H u (.str j)) : v = .str i ∧ u = .str j := by cases hv; cases hu; exact ⟨rfl, rfl⟩
theorem i2 {K : PySem.W.Frag} {i j n : Int} (H : Hp) (v u : V) (Q : VK) (hv : Den K H v (.int i)) (hu : Den K H u (.int j)) (k : ∀ w, (∀ F, Den K F w (.int n)) → Q w H) : rI0 (fun _ _ => .int n) v u H Q := by
  obtain ⟨rfl, rfl⟩ := den_ii hv hu
  exact ⟨i, j, rfl, rfl, k _ fun _ => .int n⟩
section
variable {i j : Int}
theorem ev_add (ha : Ev X a ρ (.v (.int i)) ρ1) (hb : Ev X b ρ1 (.v (.int j)) ρ2) : Ev X (.BinOp a .Add b pos) ρ (.v (.int (i + j))) ρ2 := ev_op op_add ha hb fun H v u Q hv hu k => by
  obtain ⟨rfl, rfl⟩ := den_ii hv hu; exact ⟨i, j, rfl, rfl, k _ fun _ => .int _⟩
theorem ev_sub (ha : Ev X a ρ (.v (.int i)) ρ1) (hb : Ev X b ρ1 (.v (.int j)) ρ2) : Ev X (.BinOp a .Sub b pos) ρ (.v (.int (i - j))) ρ2 := ev_op op_sub ha hb fun H v u Q hv hu k => by
  obtain ⟨rfl, rfl⟩ := den_ii hv hu; exact ⟨i, j, rfl, rfl, k _ fun _ => .int _⟩
end
/-- is None -/
def D.isN : D → Bool | .non => true | _ => false
theorem den_isN {K : PySem.W.Frag} {H : Hp} {v : V} (h : Den K H v d) : decide (v = V.non) = d.isN := by cases h <;> rfl
/-! ### and, or, not as values; tests -/
theorem ev_one {op} (h : Ev X a ρ r ρ1) : Ev X (.BoolOp op [a] pos) ρ r ρ1 := ev_of (pe_one (pe_u X a)) fun B F0 st vst σ H Q hl R k => h B F0 st vst σ H Q hl R k
theorem ev_and {rest : List Expr} {c d : Bool} (ha : Ev X a ρ (.v (.bl c)) ρ1) (hb : c = true → Ev X (.BoolOp .And (b :: rest) pos) ρ1 (.v (.bl d)) ρ2) (hn : c = false → ρ2 = ρ1 := by intro _; rfl) : Ev X (.BoolOp .And (a :: b :: rest) pos) ρ (.v (.bl (c && d))) ρ2 :=
  ev_of (pe_and (pe_u X a) (pe_u X (.BoolOp .And (b :: rest) pos))) fun B F0 st vst σ H Q hl R k => ha B F0 st vst σ H _ hl R fun v H1 R1 => by
    refine ⟨c, R1.headB, ?_⟩
    cases c with
    | true => exact hb rfl B F0 st vst σ H1 Q hl R1.drop k
    | false =>
      rw [hn rfl] at k
      exact k _ H1 (R1.drop.pushS fun _ => .bl _)
theorem ev_not {c : Bool} (ha : Ev X a ρ (.v (.bl c)) ρ1) : Ev X (.UnaryOp .Not a pos) ρ (.v (.bl (!c))) ρ1 := ev_of (pe_not (pe_u X a)) fun B F0 st vst σ H Q hl R k => ha B F0 st vst σ H _ hl R fun v H1 R1 => by
  exact ⟨c, R1.headB, k _ H1 (R1.drop.pushS fun _ => .bl _)⟩
theorem tv_of {bo : Bool} {t : TT} (ht : PT X e t) (h : ∀ (B F0 : Hp) (st : Rho) (vst : St) (σ : St) (H : Hp) (Q : Bool → Hp → Prop), vst.length = st.length → Rl X.K B F0 (st ++ ρ) (vst ++ σ) H →
    (∀ H', Rl X.K B F0 (st ++ ρ1) (vst ++ σ) H' → Q bo H') → t σ H Q) : Tv X e ρ bo ρ1 := fun B F0 st vst σ H Q hl R k => ⟨t, ht, h B F0 st vst σ H Q hl R k⟩
/-- a comparison, a call: a value that is a bool, as a test -/
theorem tv_val {bo : Bool} (h : Ev X e ρ (.v (.bl bo)) ρ1) (he : ∀ whole, isTrue e X.env whole = (do let v ← whole; standAt e.pos; holding [v] (truthy v)) := by intro _; rfl) : Tv X e ρ bo ρ1 :=
  tv_of (pt_val (pe_u X e) he) fun B F0 st vst σ H Q hl R k => h B F0 st vst σ H _ hl R fun v H1 R1 => ⟨bo, R1.headB, k H1 R1.drop⟩
theorem tv_not {bo : Bool} (h : Tv X a ρ bo ρ1) : Tv X (.UnaryOp .Not a pos) ρ (!bo) ρ1 := tv_of (pt_not (pt_u X a)) fun B F0 st vst σ H Q hl R k => h B F0 st vst σ H _ hl R fun H1 R1 => k H1 R1
end
end Vl
end
section
set_option maxRecDepth 100000
namespace Vl
open PySem L2
/-! ### comparisons by values -/
/-- op of plain data x and y is bo -/
def CmpV (X : Cx) (op : CmpOp) (x y : D) (bo : Bool) : Prop := ∃ q : R2, OpR X (compareOp op) q ∧ ∀ (H : Hp) (v u : V) (Q : VK), Den X.K H v x → Den X.K H u y → Q (.bl bo) H → q v u H Q
section
variable {X : Cx} {e a b c : Expr} {es rest : List Expr} {ρ ρ1 ρ2 ρ3 : Rho} {d x y z : D} {r t : T} {pos p p2 : Pos} {i : Nat} {op op' : CmpOp} {bo bo' : Bool}
theorem ev_cmpv (ha : Ev X a ρ (.v x) ρ1) (hb : Ev X b ρ1 (.v y) ρ2) (hc : CmpV X op x y bo) (hm : behindInMarks op b = false := by first | exact nomark _ | rfl) : Ev X (.Compare a [op] [b] pos) ρ (.v (.bl bo)) ρ2 := by
  obtain ⟨q, ho, hq⟩ := hc
  exact ev_cmp ho ha hb hm fun H v u Q hv hu k => hq H v u Q hv hu (k _ fun _ => .bl _)
theorem tv_cmpv (ha : Ev X a ρ (.v x) ρ1) (hb : Ev X b ρ1 (.v y) ρ2) (hc : CmpV X op x y bo) (hm : behindInMarks op b = false := by first | exact nomark _ | rfl) : Tv X (.Compare a [op] [b] pos) ρ bo ρ2 := by
  obtain ⟨q, ho, hq⟩ := hc
  exact tv_of (pt_cmpR ho (pe_u X a) (pe_u X b) hm) fun B F0 st vst σ H Q hl R k => ha B F0 st vst σ H _ hl R fun v H1 R1 => hb B F0 (some (.v x) :: st) (some v :: vst) σ H1 _ (by simp [hl]) R1 fun u H2 R2 =>
    hq H2 v u _ R2.drop.den R2.den ⟨bo, rfl, k H2 R2.drop.drop⟩
theorem tv_chain (ha : Ev X a ρ (.v x) ρ1) (hb : Ev X b ρ1 (.v y) ρ2) (hc : bo = true → Ev X c ρ2 (.v z) ρ3) (h1 : CmpV X op x y bo) (h2 : bo = true → CmpV X op' y z bo') (hn : bo = false → ρ3 = ρ2 := by intro _; rfl)
    (hm : lastMarks [op, op'] [b, c] = false := by with_unfolding_all rfl) : Tv X (.Compare a [op, op'] [b, c] pos) ρ (bo && bo') ρ3 := by
  obtain ⟨q, ho, hq⟩ := h1
  cases bo with
  | true =>
    obtain ⟨q', ho', hq'⟩ := h2 rfl
    exact tv_of (pt_chain ho ho' (pe_u X a) (pe_u X b) (pe_u X c) hm) fun B F0 st vst σ H Q hl R k => ha B F0 st vst σ H _ hl R fun v H1 R1 => hb B F0 (some (.v x) :: st) (some v :: vst) σ H1 _ (by simp [hl]) R1 fun u H2 R2 =>
      hq H2 v u _ R2.drop.den R2.den ⟨true, rfl, iteT (hc rfl B F0 (some (.v y) :: some (.v x) :: st) (some u :: some v :: vst) σ H2 _ (by simp [hl]) R2 fun w H3 R3 => hq' H3 u w _ R3.drop.den R3.den ⟨bo', rfl, k H3 R3.drop.drop.drop⟩)⟩
  | false =>
    have no : OpR X (compareOp op') (fun _ _ _ _ => False) := fun _ _ _ _ _ _ _ _ _ _ _ _ h => h.elim
    exact tv_of (pt_chain ho no (pe_u X a) (pe_u X b) (pe_u X c) hm) fun B F0 st vst σ H Q hl R k => by
      rw [hn rfl] at k
      exact ha B F0 st vst σ H _ hl R fun v H1 R1 => hb B F0 (some (.v x) :: st) (some v :: vst) σ H1 _ (by simp [hl]) R1 fun u H2 R2 =>
        hq H2 v u _ R2.drop.den R2.den ⟨false, rfl, iteF ⟨false, rfl, k H2 R2.drop.drop⟩⟩
theorem ev_chain (ha : Ev X a ρ (.v x) ρ1) (hb : Ev X b ρ1 (.v y) ρ2) (hc : bo = true → Ev X c ρ2 (.v z) ρ3) (h1 : CmpV X op x y bo) (h2 : bo = true → CmpV X op' y z bo') (hn : bo = false → ρ3 = ρ2 := by intro _; rfl)
    (hm : lastMarks [op, op'] [b, c] = false := by with_unfolding_all rfl) : Ev X (.Compare a [op, op'] [b, c] pos) ρ (.v (.bl (bo && bo'))) ρ3 := by
  obtain ⟨q, ho, hq⟩ := h1
  cases bo with
  | true =>
    obtain ⟨q', ho', hq'⟩ := h2 rfl
    exact ev_of (pe_chain ho ho' (pe_u X a) (pe_u X b) (pe_u X c) hm) fun B F0 st vst σ H Q hl R k => ha B F0 st vst σ H _ hl R fun v H1 R1 => hb B F0 (some (.v x) :: st) (some v :: vst) σ H1 _ (by simp [hl]) R1 fun u H2 R2 =>
      hq H2 v u _ R2.drop.den R2.den ⟨true, rfl, iteT (hc rfl B F0 (some (.v y) :: some (.v x) :: st) (some u :: some v :: vst) σ H2 _ (by simp [hl]) R2 fun w H3 R3 => hq' H3 u w _ R3.drop.den R3.den (k _ H3 (R3.drop.drop.drop.pushS fun _ => .bl _)))⟩
  | false =>
    have no : OpR X (compareOp op') (fun _ _ _ _ => False) := fun _ _ _ _ _ _ _ _ _ _ _ _ h => h.elim
    exact ev_of (pe_chain ho no (pe_u X a) (pe_u X b) (pe_u X c) hm) fun B F0 st vst σ H Q hl R k => by
      rw [hn rfl] at k
      exact ha B F0 st vst σ H _ hl R fun v H1 R1 => hb B F0 (some (.v x) :: st) (some v :: vst) σ H1 _ (by simp [hl]) R1 fun u H2 R2 =>
        hq H2 v u _ R2.drop.den R2.den ⟨false, rfl, iteF (k _ H2 (R2.drop.drop.pushS fun _ => .bl _))⟩
section
variable {n m : Int} {s1 s2 : Str}
theorem cv_lt : CmpV X .Lt (.int n) (.int m) (decide (n < m)) := ⟨_, op_lt, fun H v u Q hv hu k => by obtain ⟨rfl, rfl⟩ := den_ii hv hu; exact ⟨_, _, rfl, rfl, k⟩⟩
theorem cv_le : CmpV X .LtE (.int n) (.int m) (decide (n ≤ m)) := ⟨_, op_le, fun H v u Q hv hu k => by obtain ⟨rfl, rfl⟩ := den_ii hv hu; exact ⟨_, _, rfl, rfl, k⟩⟩
theorem cv_gt : CmpV X .Gt (.int n) (.int m) (decide (m < n)) := ⟨_, op_gt, fun H v u Q hv hu k => by obtain ⟨rfl, rfl⟩ := den_ii hv hu; exact ⟨_, _, rfl, rfl, k⟩⟩
theorem cv_ge : CmpV X .GtE (.int n) (.int m) (decide (m ≤ n)) := ⟨_, op_ge, fun H v u Q hv hu k => by obtain ⟨rfl, rfl⟩ := den_ii hv hu; exact ⟨_, _, rfl, rfl, k⟩⟩
theorem cv_eqI : CmpV X .Eq (.int n) (.int m) (decide (n = m)) := ⟨_, op_eq, fun H v u Q hv hu k => by
  obtain ⟨rfl, rfl⟩ := den_ii hv hu
  refine ⟨rfl, ?_⟩
  have e : decide (V.int n = V.int m) = decide (n = m) := by by_cases h : n = m <;> simp [h]
  rw [e]; exact k⟩
theorem cv_neI : CmpV X .NotEq (.int n) (.int m) (!decide (n = m)) := ⟨_, op_ne, fun H v u Q hv hu k => by
  obtain ⟨rfl, rfl⟩ := den_ii hv hu
  refine ⟨rfl, ?_⟩
  have e : decide (V.int n = V.int m) = decide (n = m) := by by_cases h : n = m <;> simp [h]
  rw [e]; exact k⟩
theorem cv_eqS : CmpV X .Eq (.str s1) (.str s2) (decide (s1 = s2)) := ⟨_, op_eq, fun H v u Q hv hu k => by
  obtain ⟨rfl, rfl⟩ := den_ss hv hu
  refine ⟨rfl, ?_⟩
  have e : decide (V.str s1 = V.str s2) = decide (s1 = s2) := by by_cases h : s1 = s2 <;> simp [h]
  rw [e]; exact k⟩
theorem cv_neS : CmpV X .NotEq (.str s1) (.str s2) (!decide (s1 = s2)) := ⟨_, op_ne, fun H v u Q hv hu k => by
  obtain ⟨rfl, rfl⟩ := den_ss hv hu
  refine ⟨rfl, ?_⟩
  have e : decide (V.str s1 = V.str s2) = decide (s1 = s2) := by by_cases h : s1 = s2 <;> simp [h]
  rw [e]; exact k⟩
theorem cv_ltS : CmpV X .Lt (.str s1) (.str s2) (decide (s1.cps.toList < s2.cps.toList)) := ⟨_, op_lt_str, fun H v u Q hv hu k => by obtain ⟨rfl, rfl⟩ := den_ss hv hu; exact ⟨_, _, rfl, rfl, k⟩⟩
theorem cv_leS : CmpV X .LtE (.str s1) (.str s2) (!decide (s2.cps.toList < s1.cps.toList)) := ⟨_, op_le_str, fun H v u Q hv hu k => by obtain ⟨rfl, rfl⟩ := den_ss hv hu; exact ⟨_, _, rfl, rfl, k⟩⟩
theorem cv_gtS : CmpV X .Gt (.str s1) (.str s2) (decide (s2.cps.toList < s1.cps.toList)) := ⟨_, op_gt_str, fun H v u Q hv hu k => by obtain ⟨rfl, rfl⟩ := den_ss hv hu; exact ⟨_, _, rfl, rfl, k⟩⟩
end
/-! ### == over any data -/
mutual
def D.py : D → PyData
  | .non => .none
  | .bl b => .bool b
  | .int i => .int i
  | .str x => .str x
  | .tup xs => .tuple (D.pyL xs)
  | .lst xs => .list (D.pyL xs)
  | _ => .dict []
def D.pyL : List D → List PyData
  | [] => []
  | x :: xs => D.py x :: D.pyL xs
end
/-! of data that == is told of here -/
mutual
def D.plain : D → Bool
  | .non => true | .bl _ => true | .int _ => true | .str _ => true
  | .tup xs => D.plainL xs
  | .lst xs => D.plainL xs
  | _ => false
def D.plainL : List D → Bool
  | [] => true
  | x :: xs => D.plain x && D.plainL xs
end
end
mutual
theorem Den.dp {K : PySem.W.Frag} {H : Hp} : ∀ {v : V} {d : D}, Den K H v d → d.plain = true → Dp K H v d.py
  | _, .non, h, _ => by cases h; rw [D.py]; exact .non
  | _, .bl b, h, _ => by cases h; rw [D.py]; exact .bl b
  | _, .int i, h, _ => by cases h; rw [D.py]; exact .int i
  | _, .str x, h, _ => by cases h; rw [D.py]; exact .str x
  | _, .tup xs, h, p => by
    rw [D.py]
    rw [D.plain] at p
    cases h with
    | tup e q => exact .tup (SqT.of e) (DenL.dp q p)
  | _, .lst xs, h, p => by
    rw [D.py]
    rw [D.plain] at p
    cases h with
    | lst e q => exact .lst e (DenL.dp q p)
  | _, .ty _, _, p => by simp [D.plain] at p
  | _, .ref _, _, p => by simp [D.plain] at p
  | _, .dic _, _, p => by simp [D.plain] at p
  | _, .dit _, _, p => by simp [D.plain] at p
  | _, .obj _ _, _, p => by simp [D.plain] at p
theorem DenL.dp {K : PySem.W.Frag} {H : Hp} : ∀ {vs : List V} {ds : List D}, DenL K H vs ds → D.plainL ds = true → DpAll K H vs (D.pyL ds)
  | _, [], h, _ => by cases h; rw [D.pyL]; exact .nil
  | _, d :: ds, h, p => by
    rw [D.pyL]
    rw [D.plainL, Bool.and_eq_true] at p
    cases h with
    | cons h1 h2 => exact .cons (Den.dp h1 p.1) (DenL.dp h2 p.2)
end
section
variable {X : Cx} {x y : D}
theorem cv_eqD (hu : X.A.units + 64 < cLine) (px : x.plain = true) (py : y.plain = true) (sx : SeqAt.shaped x.py = true) (sy : SeqAt.shaped y.py = true) : CmpV X .Eq x y (PyData.eqv x.py y.py) :=
  ⟨_, op_eqD hu, fun H v u Q hv hu k => ⟨_, _, hv.dp px, hu.dp py, sx, sy, k⟩⟩
theorem cv_neD (hu : X.A.units + 64 < cLine) (px : x.plain = true) (py : y.plain = true) (sx : SeqAt.shaped x.py = true) (sy : SeqAt.shaped y.py = true) : CmpV X .NotEq x y (!PyData.eqv x.py y.py) :=
  ⟨_, op_neD hu, fun H v u Q hv hu k => ⟨_, _, hv.dp px, hu.dp py, sx, sy, k⟩⟩
end
/-! without truth values == is equality -/
mutual
def D.sane : D → Bool
  | .non => true | .int _ => true | .str x => PyData.strOk x
  | .tup xs => D.saneL xs
  | .lst xs => D.saneL xs
  | _ => false
def D.saneL : List D → Bool
  | [] => true
  | x :: xs => D.sane x && D.saneL xs
end
mutual
theorem D.sane_plain : ∀ d : D, d.sane = true → d.plain = true
  | .non, _ => by simp [D.plain]
  | .int _, _ => by simp [D.plain]
  | .str _, _ => by simp [D.plain]
  | .tup xs, h => by rw [D.plain]; rw [D.sane] at h; exact D.saneL_plain xs h
  | .lst xs, h => by rw [D.plain]; rw [D.sane] at h; exact D.saneL_plain xs h
  | .bl _, h => by simp [D.sane] at h
  | .ty _, h => by simp [D.sane] at h
  | .ref _, h => by simp [D.sane] at h
  | .dic _, h => by simp [D.sane] at h
  | .dit _, h => by simp [D.sane] at h
  | .obj _ _, h => by simp [D.sane] at h
theorem D.saneL_plain : ∀ ds : List D, D.saneL ds = true → D.plainL ds = true
  | [], _ => by simp [D.plainL]
  | d :: ds, h => by
    rw [D.plainL, Bool.and_eq_true]
    rw [D.saneL, Bool.and_eq_true] at h
    exact ⟨D.sane_plain d h.1, D.saneL_plain ds h.2⟩
end
mutual
theorem D.sane_lay : ∀ d : D, d.sane = true → d.py.canLay0 = true
  | .non, _ => by simp [D.py, PyData.canLay0]
  | .int _, _ => by simp [D.py, PyData.canLay0]
  | .str _, h => by rw [D.sane] at h; simp [D.py, PyData.canLay0, h]
  | .tup xs, h => by rw [D.sane] at h; rw [D.py, PyData.canLay0]; exact D.saneL_lay xs h
  | .lst xs, h => by rw [D.sane] at h; rw [D.py, PyData.canLay0]; exact D.saneL_lay xs h
  | .bl _, h => by simp [D.sane] at h
  | .ty _, h => by simp [D.sane] at h
  | .ref _, h => by simp [D.sane] at h
  | .dic _, h => by simp [D.sane] at h
  | .dit _, h => by simp [D.sane] at h
  | .obj _ _, h => by simp [D.sane] at h
theorem D.saneL_lay : ∀ ds : List D, D.saneL ds = true → PyData.canLayAll0 (D.pyL ds) = true
  | [], _ => by simp [D.pyL, PyData.canLayAll0]
  | d :: ds, h => by
    rw [D.saneL, Bool.and_eq_true] at h
    rw [D.pyL, PyData.canLayAll0, Bool.and_eq_true]
    exact ⟨D.sane_lay d h.1, D.saneL_lay ds h.2⟩
end
mutual
theorem D.eqv_iff : ∀ x y : D, x.sane = true → y.sane = true → (PyData.eqv x.py y.py = true ↔ x = y)
  | .non, .non, _, _ => by simp [D.py, PyData.eqv]
  | .non, .int _, _, _ => by simp [D.py, PyData.eqv]
  | .non, .str _, _, _ => by simp [D.py, PyData.eqv]
  | .non, .tup _, _, _ => by simp [D.py, PyData.eqv]
  | .non, .lst _, _, _ => by simp [D.py, PyData.eqv]
  | .int _, .non, _, _ => by simp [D.py, PyData.eqv]
  | .int _, .int _, _, _ => by simp [D.py, PyData.eqv]
  | .int _, .str _, _, _ => by simp [D.py, PyData.eqv]
  | .int _, .tup _, _, _ => by simp [D.py, PyData.eqv]
  | .int _, .lst _, _, _ => by simp [D.py, PyData.eqv]
  | .str _, .non, _, _ => by simp [D.py, PyData.eqv]
  | .str _, .int _, _, _ => by simp [D.py, PyData.eqv]
  | .str _, .str _, _, _ => by simp [D.py, PyData.eqv]
  | .str _, .tup _, _, _ => by simp [D.py, PyData.eqv]
  | .str _, .lst _, _, _ => by simp [D.py, PyData.eqv]
  | .tup _, .non, _, _ => by simp [D.py, PyData.eqv]
  | .tup _, .int _, _, _ => by simp [D.py, PyData.eqv]
  | .tup _, .str _, _, _ => by simp [D.py, PyData.eqv]
  | .tup _, .lst _, _, _ => by simp [D.py, PyData.eqv]
  | .lst _, .non, _, _ => by simp [D.py, PyData.eqv]
  | .lst _, .int _, _, _ => by simp [D.py, PyData.eqv]
  | .lst _, .str _, _, _ => by simp [D.py, PyData.eqv]
  | .lst _, .tup _, _, _ => by simp [D.py, PyData.eqv]
  | .tup xs, .tup ys, hx, hy => by
    rw [D.sane] at hx hy
    rw [D.py, D.py, PyData.eqv, D.eqvAll_iff xs ys hx hy]
    simp
  | .lst xs, .lst ys, hx, hy => by
    rw [D.sane] at hx hy
    rw [D.py, D.py, PyData.eqv, D.eqvAll_iff xs ys hx hy]
    simp
  | .bl _, _, h, _ => by simp [D.sane] at h
  | .ty _, _, h, _ => by simp [D.sane] at h
  | .ref _, _, h, _ => by simp [D.sane] at h
  | .dic _, _, h, _ => by simp [D.sane] at h
  | .dit _, _, h, _ => by simp [D.sane] at h
  | .obj _ _, _, h, _ => by simp [D.sane] at h
  | _, .bl _, _, h => by simp [D.sane] at h
  | _, .ty _, _, h => by simp [D.sane] at h
  | _, .ref _, _, h => by simp [D.sane] at h
  | _, .dic _, _, h => by simp [D.sane] at h
  | _, .dit _, _, h => by simp [D.sane] at h
  | _, .obj _ _, _, h => by simp [D.sane] at h
theorem D.eqvAll_iff : ∀ xs ys : List D, D.saneL xs = true → D.saneL ys = true → (PyData.eqvAll (D.pyL xs) (D.pyL ys) = true ↔ xs = ys)
  | [], [], _, _ => by simp [D.pyL, PyData.eqvAll]
  | [], _ :: _, _, _ => by simp [D.pyL, PyData.eqvAll]
  | _ :: _, [], _, _ => by simp [D.pyL, PyData.eqvAll]
  | x :: xs, y :: ys, hx, hy => by
    rw [D.saneL, Bool.and_eq_true] at hx hy
    rw [D.pyL, D.pyL, PyData.eqvAll, Bool.and_eq_true, D.eqv_iff x y hx.1 hy.1, D.eqvAll_iff xs ys hx.2 hy.2]
    simp
end
/-! how deep -/
mutual
def D.deep : D → Nat
  | .tup xs => D.deepL xs + 1
  | .lst xs => D.deepL xs + 1
  | _ => 0
def D.deepL : List D → Nat
  | [] => 0
  | x :: xs => max (D.deep x) (D.deepL xs)
end
end Vl
end
section
set_option maxRecDepth 100000
namespace Vl
open PySem L2
mutual
theorem D.sane_deep : ∀ d : D, d.sane = true → d.py.depth = d.deep
  | .non, _ => by simp [D.py, PyData.depth, D.deep]
  | .int _, _ => by simp [D.py, PyData.depth, D.deep]
  | .str _, _ => by simp [D.py, PyData.depth, D.deep]
  | .tup xs, h => by rw [D.sane] at h; rw [D.py, PyData.depth, D.deep, D.saneL_deep xs h]
  | .lst xs, h => by rw [D.sane] at h; rw [D.py, PyData.depth, D.deep, D.saneL_deep xs h]
  | .bl _, h => by simp [D.sane] at h
  | .ty _, h => by simp [D.sane] at h
  | .ref _, h => by simp [D.sane] at h
  | .dic _, h => by simp [D.sane] at h
  | .dit _, h => by simp [D.sane] at h
  | .obj _ _, h => by simp [D.sane] at h
theorem D.saneL_deep : ∀ ds : List D, D.saneL ds = true → PyData.depthAll (D.pyL ds) = D.deepL ds
  | [], _ => by simp [D.pyL, PyData.depthAll, D.deepL]
  | d :: ds, h => by
    rw [D.saneL, Bool.and_eq_true] at h
    rw [D.pyL, PyData.depthAll, D.deepL, D.sane_deep d h.1, D.saneL_deep ds h.2]
end
/-- sane and not too deep -/
def D.fine (d : D) : Prop := d.sane = true ∧ d.deep ≤ 64
theorem D.fine_shaped {d : D} (h : d.fine) : SeqAt.shaped d.py = true := by
  unfold SeqAt.shaped
  rw [Bool.and_eq_true]
  exact ⟨D.sane_lay d h.1, decide_eq_true (by rw [D.sane_deep d h.1]; exact h.2)⟩
section
variable {X : Cx} {x y : D} {bo : Bool}
theorem cv_eq (hu : X.A.units + 64 < cLine) (hx : x.fine) (hy : y.fine) (hb : bo = true ↔ x = y) : CmpV X .Eq x y bo := by
  have h := cv_eqD hu (D.sane_plain x hx.1) (D.sane_plain y hy.1) (D.fine_shaped hx) (D.fine_shaped hy)
  have e : PyData.eqv x.py y.py = bo := by
    rw [Bool.eq_iff_iff, D.eqv_iff x y hx.1 hy.1, hb]
  rw [e] at h; exact h
theorem cv_ne (hu : X.A.units + 64 < cLine) (hx : x.fine) (hy : y.fine) (hb : bo = true ↔ x ≠ y) : CmpV X .NotEq x y bo := by
  have h := cv_neD hu (D.sane_plain x hx.1) (D.sane_plain y hy.1) (D.fine_shaped hx) (D.fine_shaped hy)
  have e : (!PyData.eqv x.py y.py) = bo := by
    rw [Bool.eq_iff_iff, hb]
    have q := D.eqv_iff x y hx.1 hy.1
    cases z : PyData.eqv x.py y.py
    · rw [z] at q; simp at q ⊢; exact q
    · rw [z] at q; simp at q ⊢; exact q
  rw [e] at h; exact h
end
section
variable {X : Cx} {e a b c : Expr} {es rest : List Expr} {ρ ρ1 ρ2 ρ3 : Rho} {d x y z : D} {r t : T} {ts : List T} {ds : List D} {pos p p2 : Pos} {i : Nat} {bo bo' : Bool}
/-! ### and, or, conditional expressions as tests -/
def TvW (X : Cx) (e : Expr) (ρ : Rho) (b : Bool) (ρ' : Rho) : Prop :=
  ∀ (B F0 : Hp) (st : Rho) (vst : St) (σ : St) (H : Hp) (Q : Bool → Hp → Prop), vst.length = st.length → Rl X.K B F0 (st ++ ρ) (vst ++ σ) H →
    (∀ H', Rl X.K B F0 (st ++ ρ') (vst ++ σ) H' → Q b H') → ∃ t, PW X e t ∧ t σ H Q
def tW (X : Cx) (e : Expr) : TT := fun σ H Q => ∃ t, PW X e t ∧ t σ H Q
theorem pw_u (X : Cx) (e : Expr) : PW X e (tW X e) := ⟨fun wh pins s σ H Q I h => let ⟨_, p, q⟩ := h; p.run wh pins s σ H Q I q⟩
theorem tv_w (h : TvW X e ρ bo ρ1) : Tv X e ρ bo ρ1 := fun B F0 st vst σ H Q hl R k => let ⟨t, p, q⟩ := h B F0 st vst σ H Q hl R k; ⟨t, p.pt, q⟩
theorem tw_or1 (h : Tv X a ρ bo ρ1) : TvW X (.BoolOp .Or [a] pos) ρ bo ρ1 := fun B F0 st vst σ H Q hl R k => ⟨_, pw_or1 (pt_u X a), h B F0 st vst σ H Q hl R k⟩
theorem tw_or (ha : Tv X a ρ bo ρ1) (hb : bo = false → TvW X (.BoolOp .Or (b :: rest) pos) ρ1 bo' ρ2) (hn : bo = true → ρ2 = ρ1 := by intro _; rfl) : TvW X (.BoolOp .Or (a :: b :: rest) pos) ρ (bo || bo') ρ2 := fun B F0 st vst σ H Q hl R k =>
  ⟨_, pw_or (pt_u X a) (pw_u X (.BoolOp .Or (b :: rest) pos)), ha B F0 st vst σ H _ hl R fun H1 R1 => by
    cases bo with
    | false => exact iteF (hb rfl B F0 st vst σ H1 Q hl R1 k)
    | true =>
      rw [hn rfl] at k
      exact iteT (k H1 R1)⟩
theorem tv_notN {j pos'} (ha : Ev X a ρ (.v d) ρ1) : Tv X (.Compare a [.IsNot] [.Constant .none j pos'] pos) ρ (!d.isN) ρ1 := tv_of (pt_cmp (pc_notN (pe_u X a)) (nomark _)) fun B F0 st vst σ H Q hl R k => ha B F0 st vst σ H _ hl R fun v H1 R1 => ⟨_, rfl, by
  rw [den_isN R1.den]; exact k H1 R1.drop⟩
/-! ### arguments, displays -/
theorem eva_nil : EvA X [] ρ [] ρ := fun B F0 st vst σ H Q hl R k => ⟨_, pa_nil, k [] H rfl R⟩
theorem eva_cons (ha : Ev X e ρ r ρ1) (hr : EvA X es ρ1 ts ρ2) (hs : starEach (e :: es) X.env = (false, eval e X.env) :: starEach es X.env := by rfl) : EvA X (e :: es) ρ (r :: ts) ρ2 := fun B F0 st vst σ H Q hl R k =>
  ⟨_, pa_cons (pe_u X e) (pa_u X es) hs, ha B F0 st vst σ H _ hl R fun v H1 R1 => hr B F0 (some r :: st) (some v :: vst) σ H1 _ (by simp [hl]) R1 fun vs H2 hl2 R2 => by
    refine k (v :: vs) H2 (by simp [hl2]) ?_
    exact Rl.swap (ρ1 := ts.map some) (σ1 := vs.map some) (ρ2 := [some r]) (σ2 := [some v]) (by simp [hl2]) rfl R2⟩
/-- all let go -/
theorem EvA.frz (h : EvA X es ρ ts ρ1) : EvA X es ρ (ts.map fun t => .v t.d) ρ1 := fun B F0 st vst σ H Q hl R k => h B F0 st vst σ H Q hl R fun vs H1 hl1 R1 => k vs H1 (by simp [hl1]) (by
  have := R1.freezeN hl1
  simpa [List.map_map, Function.comp_def] using this)
theorem EvA.as (h : EvA X es ρ ts ρ1) (e : ts = ds.map T.v) : EvA X es ρ (ds.map T.v) ρ1 := by subst e; exact h
theorem rl_v {K : PySem.W.Frag} {B F0 H : Hp} {ρ : Rho} {σ : St} (ds : List D) (h : Rl K B F0 ((ds.map T.v).map some ++ ρ) σ H) : Rl K B F0 ((ds.map fun d => some (T.v d)) ++ ρ) σ H := by
  rw [List.map_map] at h; exact h
theorem ev_tup {x1} (ha : EvA X es ρ (ds.map T.v) ρ1) (hz : ds.length ≤ 100000) : Ev X (.Tuple es x1 pos) ρ (.v (.tup ds)) ρ1 := ev_of (pe_tup (pa_u X es)) fun B F0 st vst σ H Q hl R k => ha B F0 st vst σ H _ hl R fun vs H1 hl1 R1 => by
  have hl2 : vs.length = ds.length := by simpa using hl1
  exact ⟨by rw [hl2, sizeLine_eq]; omega, fun p hp => k _ _ ((rl_v ds R1).newTup hl2 hp)⟩
theorem ev_lst (ha : EvA X es ρ ts ρ1) (hz : ts.length ≤ 100000) : Ev X (.List es pos) ρ (.lst ts) ρ1 := ev_of (pe_lst (pa_u X es)) fun B F0 st vst σ H Q hl R k => ha B F0 st vst σ H _ hl R fun vs H1 hl1 R1 =>
  ⟨by rw [hl1, sizeLine_eq]; omega, fun p hp => k _ _ (R1.newLst hl1 hp)⟩
/-! ### items and slices -/
theorem DenL.at {K : PySem.W.Frag} {F : Hp} {xs : List V} {ds : List D} (h : DenL K F xs ds) {n : Int} {d : D} (e : atI ds n = some d) : ∃ v, atI xs n = some v ∧ Den K F v d := by
  unfold atI at e ⊢
  rw [h.length]
  cases hx : ixN ds.length n with
  | none => rw [hx] at e; simp at e
  | some j => rw [hx] at e; exact h.get e
theorem ev_ixL {n : Int} (ha : Ev X a ρ (.v (.lst ds)) ρ1) (hb : Ev X b ρ1 (.v (.int n)) ρ2) (he : atI ds n = some d) (hs : PlainIx b := by first | exact fun _ _ => rfl | (intro _ _; rfl)) : Ev X (.Subscript a b pos) ρ (.v d) ρ2 :=
  ev_of (pe_ix ix_list (pe_u X a) (pe_u X b) hs) fun B F0 st vst σ H Q hl R k => ha B F0 st vst σ H _ hl R fun v H1 R1 => hb B F0 (some (.v (.lst ds)) :: st) (some v :: vst) σ H1 _ (by simp [hl]) R1 fun u H2 R2 => by
    obtain ⟨F, eF, hd, mk⟩ := R2.drop.elim
    cases hd with
    | lst hq q =>
      obtain ⟨w, hw, dw⟩ := q.at he
      exact ⟨_, _, n, w, rfl, R2.headI, eF.sqL hq, hw, k w H2 (mk w d dw)⟩
theorem ev_ixT {n : Int} (ha : Ev X a ρ (.v (.tup ds)) ρ1) (hb : Ev X b ρ1 (.v (.int n)) ρ2) (he : atI ds n = some d) (hs : PlainIx b := by first | exact fun _ _ => rfl | (intro _ _; rfl)) : Ev X (.Subscript a b pos) ρ (.v d) ρ2 :=
  ev_of (pe_ix ix_tup (pe_u X a) (pe_u X b) hs) fun B F0 st vst σ H Q hl R k => ha B F0 st vst σ H _ hl R fun v H1 R1 => hb B F0 (some (.v (.tup ds)) :: st) (some v :: vst) σ H1 _ (by simp [hl]) R1 fun u H2 R2 => by
    obtain ⟨F, eF, hd, mk⟩ := R2.drop.elim
    cases hd with
    | tup hq q =>
      obtain ⟨w, hw, dw⟩ := q.at he
      exact ⟨_, _, n, w, rfl, R2.headI, SqT.of (eF.t hq), hw, k w H2 (mk w d dw)⟩
def cutD (xs : List D) (lo hi : Option Int) : List D := (xs.drop (HT.sIx xs.length 0 lo)).take (HT.sIx xs.length xs.length hi - HT.sIx xs.length 0 lo)
theorem DenL.drop {K : PySem.W.Frag} {F : Hp} : ∀ {xs : List V} {ds : List D} (n : Nat), DenL K F xs ds → DenL K F (xs.drop n) (ds.drop n)
  | _, _, 0, h => h
  | _, _, _ + 1, .nil => .nil
  | _, _, n + 1, .cons _ q => DenL.drop n q
theorem DenL.take {K : PySem.W.Frag} {F : Hp} : ∀ {xs : List V} {ds : List D} (n : Nat), DenL K F xs ds → DenL K F (xs.take n) (ds.take n)
  | _, _, 0, _ => .nil
  | _, _, _ + 1, .nil => .nil
  | _, _, n + 1, .cons h q => .cons h (DenL.take n q)
theorem DenL.cut {K : PySem.W.Frag} {F : Hp} {xs : List V} {ds : List D} {lo hi : Option Int} (h : DenL K F xs ds) : DenL K F (cutV xs lo hi) (cutD ds lo hi) := by
  unfold cutV cutD
  rw [h.length]
  exact (h.drop _).take _
/-- a bound of a slice -/
def EvO (X : Cx) (e : Option Expr) (ρ : Rho) (o : Option Int) : Prop := ∃ to : TO, PO X e to ∧ ∀ (B F0 : Hp) (st : Rho) (vst σ : St) (H : Hp) (Q : Option Int → Hp → Prop), vst.length = st.length → Rl X.K B F0 (st ++ ρ) (vst ++ σ) H → (∀ H', Rl X.K B F0 (st ++ ρ) (vst ++ σ) H' → Q o H') → to σ H Q
theorem evo_none : EvO X none ρ none := ⟨_, po_none, fun B F0 st vst σ H Q hl R k => k H R⟩
theorem evo_some {n : Int} (h : Ev X e ρ (.v (.int n)) ρ) : EvO X (some e) ρ (some n) := ⟨_, po_some (pe_u X e), fun B F0 st vst σ H Q hl R k => h B F0 st vst σ H _ hl R fun v H1 R1 => ⟨n, R1.headI, k H1 R1.drop⟩⟩
/-- t[lo:hi] of a tuple -/
theorem ev_slT {lo hi : Option Expr} {l u : Option Int} (ha : Ev X a ρ (.v (.tup ds)) ρ1) (h1 : EvO X lo ρ1 l) (h2 : EvO X hi ρ1 u) : Ev X (.Subscript a (.Slice lo hi none p2) pos) ρ (.v (.tup (cutD ds l u))) ρ1 := by
  obtain ⟨tl, pl, hl1⟩ := h1
  obtain ⟨tu, pu, hu1⟩ := h2
  exact ev_of (pe_slice sl_tupA (pe_u X a) pl pu) fun B F0 st vst σ H Q hl R k => ha B F0 st vst σ H _ hl R fun v H1 R1 =>
    hl1 B F0 (some (.v (.tup ds)) :: st) (some v :: vst) σ H1 _ (by simp [hl]) R1 fun H2 R2 => hu1 B F0 (some (.v (.tup ds)) :: st) (some v :: vst) σ H2 _ (by simp [hl]) R2 fun H3 R3 => by
      have R3' : Rl X.K B F0 (([D.tup ds].map fun d => some (T.v d)) ++ (st ++ ρ1)) ([v].map some ++ (vst ++ σ)) H3 := R3
      obtain ⟨F, eF, hd, mk1, _, mk⟩ := R3'.elimN rfl
      cases hd with
      | cons hd _ =>
        cases hd with
        | @tup a xs _ hq q =>
          refine ⟨_, _, rfl, SqT.of (eF.t hq), fun hh => ?_, fun _ p hp => k _ _ (mk _ _ p q.cut hp)⟩
          have e : cutD ds l u = ds := by
            unfold cutD
            rw [← q.length, hh.1, hh.2, q.length]
            simp
          rw [e] at k
          exact k _ _ (mk1 _ _ (.tup hq q))
theorem lookup_den {K : PySem.W.Frag} {F : Hp} {f : Str} : ∀ {fs : List (Str × V)} {ds : List (Str × D)} {d : D}, fs.map (·.1) = ds.map (·.1) → DenL K F (fs.map (·.2)) (ds.map (·.2)) → ds.lookup f = some d → ∃ v, fs.lookup f = some v ∧ Den K F v d
  | [], [], _, _, _, h => by simp [List.lookup] at h
  | [], _ :: _, _, e, _, _ => by simp at e
  | _ :: _, [], _, e, _, _ => by simp at e
  | (k, v) :: fs, (k', d') :: ds, d, e, q, h => by
    simp only [List.map_cons, List.cons.injEq] at e
    obtain ⟨rfl, e⟩ := e
    cases q with
    | cons q1 q2 =>
      simp only [List.lookup] at h ⊢
      cases hk : (f == k) with
      | true => rw [hk] at h; simp at h; subst h; exact ⟨v, rfl, q1⟩
      | false => rw [hk] at h; exact lookup_den e q2 h
theorem ev_fld {f : Str} {C : Addr} {fs : List (Str × D)} (ha : Ev X e ρ (.v (.obj C fs)) ρ1) (hc : Cls X.K C) (hn : NoAttr X.K C f) (hf : fs.lookup f = some d) (hb : attributeBase e f X.env (eval e X.env) = eval e X.env := by rfl) : Ev X (.Attribute e f pos) ρ (.v d) ρ1 :=
  ev_of (pe_fld (pe_u X e) hb) fun B F0 st vst σ H Q hl R k => ha B F0 st vst σ H _ hl R fun v H1 R1 => by
    obtain ⟨F, eF, hd, mk⟩ := R1.elim
    cases hd with
    | @obj a _ dx gs _ h1 h2 h3 =>
      obtain ⟨w, hw, dw⟩ := lookup_den h2 h3 hf
      exact ⟨a, C, dx, gs, w, rfl, eF.i h1, hc, hn, hw, k w H1 (mk w d dw)⟩
end
/-! ### calls of built-in functions -/
section
variable {X : Cx} {e a b c : Expr} {es rest : List Expr} {ρ ρ1 ρ2 ρ3 : Rho} {d x y z : D} {r t : T} {ts : List T} {ds us : List D} {pos p p2 : Pos} {i : Nat} {bo bo' : Bool} {id : String} {f : Str} {q : List V → Hp → VK → Prop}
/-- f(..), f a built-in function: a plain answer -/
theorem ev_callB (hc : CallR X (.builtin id) q) (hm : X.mg f = none) (hv : bootBuiltins f = some (.builtin id)) (ha : EvA X (e :: es) ρ ts ρ1) (hr : ∀ (H : Hp) (vs : List V) (Q : VK), DenL X.K H vs (ts.map T.d) → (∀ w, (∀ F, Den X.K F w z) → Q w H) → q vs H Q) (hg : Gl X f := by rfl)
    (hn : f ≠ "__name__" := by decide) (hdb : (f == ("__debug__" : Str)) = false := by decide)
    (he : starEach (e :: es) X.env = (false, eval e X.env) :: starEach es X.env := by rfl) (hpl : (backTo pos (starEach es X.env)).any (·.1) = false := by rfl) : Ev X (.Call (.Name f p) (e :: es) [] pos) ρ (.v z) ρ1 :=
  ev_of (pe_callB hc hg hm hv (pa_u X (e :: es)) hn hdb he hpl) fun B F0 st vst σ H Q hl R k => ha.frz B F0 st vst σ H _ hl R fun vs H1 hl1 R1 => by
    have R2 := rl_v (ts.map T.d) (by simpa [List.map_map, Function.comp_def] using R1)
    have hl2 : vs.length = (ts.map T.d).length := by simpa using hl1
    refine hr H1 vs Q (R2.denN hl2) fun w hw => k w H1 ?_
    exact (Rl.dropN (ρ1 := (ts.map T.d).map fun d => some (T.v d)) (σ1 := vs.map some) (by simp [hl2]) R2).pushS hw
/-- .. a new list of what is known -/
theorem ev_callBL (hc : CallR X (.builtin id) q) (hm : X.mg f = none) (hv : bootBuiltins f = some (.builtin id)) (ha : EvA X (e :: es) ρ ts ρ1)
    (hr : ∀ (F H : Hp) (vs : List V) (Q : VK), Sub F H → DenL X.K F vs (ts.map T.d) → (∀ ws p, DenL X.K F ws us → H p = none → Q (.ref p) (upd H p (.lst ws))) → q vs H Q) (hg : Gl X f := by rfl)
    (hn : f ≠ "__name__" := by decide) (hdb : (f == ("__debug__" : Str)) = false := by decide)
    (he : starEach (e :: es) X.env = (false, eval e X.env) :: starEach es X.env := by rfl) (hpl : (backTo pos (starEach es X.env)).any (·.1) = false := by rfl) : Ev X (.Call (.Name f p) (e :: es) [] pos) ρ (.lst (us.map T.v)) ρ1 :=
  ev_of (pe_callB hc hg hm hv (pa_u X (e :: es)) hn hdb he hpl) fun B F0 st vst σ H Q hl R k => ha.frz B F0 st vst σ H _ hl R fun vs H1 hl1 R1 => by
    have R2 := rl_v (ts.map T.d) (by simpa [List.map_map, Function.comp_def] using R1)
    have hl2 : vs.length = (ts.map T.d).length := by simpa using hl1
    obtain ⟨F, eF, hd, _, mk, _⟩ := R2.elimN hl2
    exact hr F H1 vs Q eF hd fun ws p hw hp => k _ _ (mk ws us p hw hp)
theorem denl1 {K : PySem.W.Frag} {H : Hp} {vs : List V} {d : D} (h : DenL K H vs [d]) : ∃ v, vs = [v] ∧ Den K H v d := by
  cases h with
  | cons h1 h2 => cases h2; exact ⟨_, rfl, h1⟩
theorem denl2 {K : PySem.W.Frag} {H : Hp} {vs : List V} {d d' : D} (h : DenL K H vs [d, d']) : ∃ v v', vs = [v, v'] ∧ Den K H v d ∧ Den K H v' d' := by
  cases h with
  | cons h1 h2 =>
    obtain ⟨v', rfl, h3⟩ := denl1 h2
    exact ⟨_, _, rfl, h1, h3⟩
theorem den_ints {K : PySem.W.Frag} {H : Hp} : ∀ {ns : List Int} {vs : List V}, DenL K H vs (ns.map D.int) → vs = ns.map V.int
  | [], _, h => by cases h; rfl
  | n :: ns, _, h => by
    cases h with
    | cons h1 h2 => cases h1; rw [den_ints h2]; rfl
theorem ints_den {K : PySem.W.Frag} {H : Hp} : ∀ (ns : List Int), DenL K H (ns.map V.int) (ns.map D.int)
  | [] => .nil
  | n :: ns => .cons (.int n) (ints_den ns)
theorem den_strs {K : PySem.W.Frag} {H : Hp} : ∀ {ns : List Str} {vs : List V}, DenL K H vs (ns.map D.str) → vs = ns.map V.str
  | [], _, h => by cases h; rfl
  | n :: ns, _, h => by
    cases h with
    | cons h1 h2 => cases h1; rw [den_strs h2]; rfl
theorem strs_den {K : PySem.W.Frag} {H : Hp} : ∀ (ns : List Str), DenL K H (ns.map V.str) (ns.map D.str)
  | [] => .nil
  | n :: ns => .cons (.str n) (strs_den ns)
theorem den_bls {K : PySem.W.Frag} {H : Hp} : ∀ {ns : List Bool} {vs : List V}, DenL K H vs (ns.map D.bl) → vs = ns.map V.bl
  | [], _, h => by cases h; rfl
  | n :: ns, _, h => by
    cases h with
    | cons h1 h2 => cases h1; rw [den_bls h2]; rfl
def D.len : D → Option Nat
  | .str x => some x.length | .tup xs => some xs.length | .lst xs => some xs.length | _ => none
theorem ev_len {n : Nat} (ha : EvA X [e] ρ [r] ρ1) (hn : r.d.len = some n) (hz : n ≤ 1000000) (hm : X.mg "len" = none) (hg : Gl X "len" := by rfl) (he : starEach [e] X.env = (false, eval e X.env) :: starEach [] X.env := by rfl) : Ev X (.Call (.Name "len" p) [e] [] pos) ρ (.v (.int n)) ρ1 :=
  ev_callB call_len hm PySem.boot_len ha (fun H vs Q h k => by
    obtain ⟨v, rfl, hd⟩ := denl1 h
    refine ⟨v, n, rfl, ?_, k _ fun _ => .int _⟩
    generalize r.d = dd at hd hn
    cases hd with
    | str x => simp only [D.len, Option.some.injEq] at hn; exact ⟨by rw [sizeLine_eq]; omega, hn.symm⟩
    | tup hq q => simp only [D.len, Option.some.injEq] at hn; exact .inr ⟨_, SqT.of hq, by rw [q.length]; exact hn.symm⟩
    | lst hq q => simp only [D.len, Option.some.injEq] at hn; exact .inl ⟨_, hq, by rw [q.length]; exact hn.symm⟩
    | _ => simp [D.len] at hn) hg (he := he)
theorem ev_all {ns : List Bool} (ha : EvA X [e] ρ [r] ρ1) (hr : r.d = .lst (ns.map D.bl)) (hc : X.calm = true) (hm : X.mg "all" = none) (hg : Gl X "all" := by rfl) (he : starEach [e] X.env = (false, eval e X.env) :: starEach [] X.env := by rfl) : Ev X (.Call (.Name "all" p) [e] [] pos) ρ (.v (.bl (ns.all fun b => b))) ρ1 :=
  ev_callB (cr_all hc) hm PyProof.Rows.boot_all ha (fun H vs Q h k => by
    obtain ⟨v, rfl, hd⟩ := denl1 h
    rw [hr] at hd
    cases hd with
    | lst hq q => exact ⟨_, ns, rfl, by rw [← den_bls q]; exact hq, k _ fun _ => .bl _⟩) hg (he := he)
/-- tuple(xs) -/
theorem ev_tupleL {xs : List D} (ha : Ev X a ρ r ρ1) (hr : r.d = .lst xs ∨ r.d = .tup xs) (hm : X.mg "tuple" = none) (hg : Gl X "tuple" := by rfl) (he : starEach [a] X.env = (false, eval a X.env) :: starEach [] X.env := by rfl) : Ev X (.Call (.Name "tuple" p) [a] [] pos) ρ (.v (.tup xs)) ρ1 :=
  ev_of (pe_tupleOf hg hm (pe_u X a) he) fun B F0 st vst σ H Q hl R k => (ev_frz ha) B F0 st vst σ H _ hl R fun v H1 R1 => by
    have R1' : Rl X.K B F0 (([r.d].map fun d => some (T.v d)) ++ (st ++ ρ1)) ([v].map some ++ (vst ++ σ)) H1 := R1
    obtain ⟨F, eF, hd, mk1, _, mk⟩ := R1'.elimN rfl
    obtain ⟨v', e, hd⟩ := denl1 hd
    cases e
    rcases hr with hr | hr
    · rw [hr] at hd
      cases hd with
      | lst hq q => exact .inl ⟨_, _, rfl, eF.sqL hq, fun p hp => k _ _ (mk _ _ p q hp)⟩
    · rw [hr] at hd
      cases hd with
      | tup hq q => exact .inr ⟨_, _, rfl, SqT.of (eF.t hq), k _ _ (mk1 _ _ (.tup hq q))⟩
end
end Vl
end
section
set_option maxRecDepth 100000
namespace Vl
open PySem L2
/-- an exception: its class, its fields -/
structure Xn where
  C : Addr
  fs : List (Str × D)
def XDen (K : PySem.W.Frag) (F : Hp) (x : Xn) (cls : Value) (d : Option Addr) : Prop :=
  cls = .ref x.C ∧ ((x.fs = [] ∧ d = none) ∨ ∃ dd vs, d = some dd ∧ x.fs ≠ [] ∧ F dd = some (.xd vs) ∧ vs.map (·.1) = x.fs.map (·.1) ∧ DenL K F (vs.map (·.2)) (x.fs.map (·.2)))
section
variable {K : PySem.W.Frag} {B F0 F F' H H' : Hp} {ρ ρ' st : Rho} {σ σ' vst : St} {v : V} {d : D} {t r : T}
theorem RlF.rl (h : RlF K B F0 F ρ σ H) : Rl K B F0 ρ σ H := ⟨F, h⟩
theorem RlF.self (h : RlF K B F0 F ρ σ H) : RlF K B F F ρ σ H := by
  obtain ⟨A, e0, e1, e2, dm, o, nd, fr⟩ := h
  exact ⟨A, Same.refl _, e1, e2, fun a u z => .inl ⟨u, z⟩, o, nd, fr⟩
theorem RlF.re (h : RlF K B F0 F ρ σ H) (h' : RlF K B F F' ρ' σ' H') : RlF K B F0 F' ρ' σ' H' := by
  obtain ⟨A, e0, e1, e2, dm, o, nd, fr⟩ := h
  obtain ⟨A', e0', e1', e2', dm', o', nd', fr'⟩ := h'
  refine ⟨A', e0.trans e0', e1', e2', fun a u z => ?_, o', nd', fr'⟩
  rcases dm' a u z with ⟨u', z'⟩ | z'
  · exact dm a u' z'
  · exact .inr z'
theorem RlF.reL (h : RlF K B F0 F ρ σ H) (h' : Rl K B F ρ' σ' H') : Rl K B F0 ρ' σ' H' := by
  obtain ⟨F', h'⟩ := h'
  exact ⟨F', h.re h'⟩
theorem Rl.pushF (h : Rl K B F0 ρ σ H) (hd : Den K F0 v d) : Rl K B F0 (some (.v d) :: ρ) (some v :: σ) H := by
  obtain ⟨F, A, e0, e1, e2, dm, o, nd, fr⟩ := h
  exact ⟨F, A, e0, e1, e2, dm, OwnS.cons (A := []) (.v (hd.mono e0)) o, nd, fr⟩
theorem Rl.same (h : Rl K B F0 ρ σ H) : Sub F0 H := by
  obtain ⟨F, A, e0, e1, _⟩ := h
  exact e1.tr e0
/-- at the head stands plain data; F: what is known -/
theorem Rl.elimF (h : Rl K B F0 (some (.v d) :: ρ) (some v :: σ) H) : ∃ F, RlF K B F0 F ρ σ H ∧ Den K F v d := by
  obtain ⟨F, A, e0, e1, e2, dm, o, nd, fr⟩ := h
  cases o with
  | cons o1 o2 =>
    cases o1 with
    | v hd => exact ⟨F, ⟨_, e0, e1, e2, dm, o2, nd, fr⟩, hd⟩
theorem bas_tr (e : Same F F') (h : Bas B F H) (h' : Bas H F' H') : Bas B F' H' := fun a u z => by
  rcases h a u z with q | ⟨q, o, kvs, e2, q2⟩
  · exact h' a u q
  · rcases h' a _ q2 with w | ⟨_, o', kvs', e3, _⟩
    · exact .inr ⟨e a u q, o, kvs, e2, w⟩
    · cases e3
/-- a call: what the callee sees, what is left behind it -/
theorem Rl.callee {ds : List D} {vs : List V} (h : Rl K B F0 ((ds.map fun d => some (.v d)) ++ ρ) (vs.map some ++ σ) H) (hl : vs.length = ds.length) :
    ∃ F, RlF K B F0 F ρ σ H ∧ Rl K H F ((ds.map T.v).map some) (vs.map some) H ∧
      (∀ ρ2 σ2 r v H', Rl K H F (some r :: ρ2) (some v :: σ2) H' → Rl K B F0 (some r :: ρ) (some v :: σ) H') ∧
      (∀ F' ρ2 σ2 H', RlF K H F F' ρ2 σ2 H' → RlF K B F0 F' ρ σ H') := by
  obtain ⟨F, A, e0, e1, e2, dm, o, nd, fr⟩ := h
  obtain ⟨A1, A2, rfl, o1, o2⟩ := o.split (by simpa using hl)
  obtain ⟨rfl, q⟩ := OwnS.allv o1
  have nd2 := (List.nodup_append.mp nd).2.1
  have fr2 : ∀ a ∈ A2, F a = none ∧ B a = none := fun a ha => fr a (by simpa using ha)
  have bn : ∀ {a : Addr}, H a = none → B a = none := fun {a} h => e2.free h
  have back : ∀ F' ρ2 σ2 H', RlF K H F F' ρ2 σ2 H' → Same F F' ∧ Sub F' H' ∧ Bas B F' H' ∧ (∀ a ∈ A2, ∀ u, H a = some u → H' a = some u) ∧ (∀ a o, F' a = some o → (∃ u, F0 a = some u) ∨ B a = none) ∧ ∀ a ∈ A2, F' a = none ∧ B a = none := fun F' ρ2 σ2 H' h => by
    obtain ⟨A', e0', e1', e2', dm', o', nd', fr'⟩ := h
    have fn : ∀ a ∈ A2, F' a = none := fun a ha => none_of_ne fun u z => by
      obtain ⟨w, hw⟩ := o2.there a ha
      rcases dm' a u z with ⟨u', z'⟩ | z'
      · rw [(fr2 a ha).1] at z'; cases z'
      · rw [hw] at z'; cases z'
    refine ⟨e0', e1', bas_tr e0' e2 e2', fun a ha u z => ?_, fun a u z => ?_, fun a ha => ⟨fn a ha, (fr2 a ha).2⟩⟩
    · rcases e2' a u z with q | ⟨q, _⟩
      · exact q
      · rw [fn a ha] at q; cases q
    · rcases dm' a u z with ⟨u', z'⟩ | z'
      · exact dm a u' z'
      · exact .inr (bn z')
  refine ⟨F, ⟨A2, e0, e1, e2, dm, o2, nd2, fr2⟩, ⟨F, [], Same.refl _, e1, fun _ _ z => .inl z, fun a u z => .inl ⟨u, z⟩, ?_, List.nodup_nil, fun a ha => by cases ha⟩, fun ρ2 σ2 r v H' h => ?_, fun F' ρ2 σ2 H' h => ?_⟩
  · have := OwnS.ofL (OwnL.ofDen (H := H) q)
    simpa using this
  · obtain ⟨F', h⟩ := h
    obtain ⟨b1, b2, b3, b3k, b4, b5⟩ := back F' _ _ _ h
    obtain ⟨A', e0', e1', e2', dm', o', nd', fr'⟩ := h
    cases o' with
    | @cons _ _ _ _ C1 C2 c1 c2 =>
      have o3 : OwnS K F' H' (some v :: σ) (some r :: ρ) (C1 ++ A2) := .cons c1 (o2.mono b1 b3k)
      refine ⟨F', C1 ++ A2, e0.trans b1, b2, b3, b4, o3, List.nodup_append.mpr ⟨(List.nodup_append.mp nd').1, nd2, fun a ha b hb e => ?_⟩, fun a ha => ?_⟩
      · subst e
        obtain ⟨w, hw⟩ := o2.there a hb
        have := (fr' a (List.mem_append_left _ ha)).2
        rw [hw] at this; cases this
      · rcases List.mem_append.mp ha with ha | ha
        · exact ⟨(fr' a (List.mem_append_left _ ha)).1, bn (fr' a (List.mem_append_left _ ha)).2⟩
        · exact b5 a ha
  · obtain ⟨b1, b2, b3, b3k, b4, b5⟩ := back F' _ _ _ h
    exact ⟨A2, e0.trans b1, b2, b3, b4, o2.mono b1 b3k, nd2, b5⟩
end
/-! ### what a def promises -/
/-- arguments; what may come back, with the arguments behind it; what may be raised -/
abbrev Pr := List T → (T → List T → Prop) → (Xn → Prop) → Prop
def spF (K : PySem.W.Frag) (R : Pr) : Sp := fun vs H Q E => ∃ (B F0 : Hp) (ts : List T) (Qt : T → List T → Prop) (Qx : Xn → Prop), vs.length = ts.length ∧ Rl K B F0 (ts.map some) (vs.map some) H ∧ R ts Qt Qx ∧
  (∀ r ts' v H', Qt r ts' → Rl K B F0 (some r :: ts'.map some) (some v :: vs.map some) H' → Q v H') ∧ (∀ x cls d F H', Qx x → RlF K B F0 F [] [] H' → XDen K F x cls d → E cls d H')
/-- the def called x keeps R -/
def Fn (P : Program) (w : World) (K : PySem.W.Frag) (mg : Str → Option Value) (base : Heap) (k : Nat) (x : Str) (R : Pr) : Prop :=
  ∃ (f : Addr) (fd : FuncData) (ps : List Str), FnOk P w K mg base (L2.CX P w) k f fd ps (spF K R) ∧ mg x = some (.ref f) ∧ PySem.W.keepIn K (.ref f) = true ∧ Binds K fd ps []
/-- what is known of a body -/
structure Gd (X : Cx) : Prop where
  own : PassesOwn (model X.prog X.w) X.A X.env X.xe
  calm : X.calm = true
  nd : X.N.Nodup
  hu : X.A.units + 64 < cLine
section
variable {X : Cx} {e a b c : Expr} {es rest : List Expr} {ρ ρ1 ρ2 ρ3 : Rho} {d x y z : D} {r t : T} {ts : List T} {ds : List D} {pos p p2 : Pos} {i k : Nat} {bo bo' : Bool} {f : Str} {R : Pr} {xn : Xn}
theorem passE0 : ∀ σ : St, PassesAt (L2.CX X.prog X.w) X σ ((fun _ => E0) σ) := fun _ _ _ _ _ _ _ h => by
  obtain ⟨_, _, _, _, _, _, _, _, _, _, _, _, z⟩ := h
  exact z.elim
/-- f(..), f a def: nothing is raised -/
theorem ev_call (Fd : Fn X.prog X.w X.K X.mg X.base k f R) (hr : Room k X.A) (ha : EvA X (e :: es) ρ ts ρ1) (hR : R (ts.map fun t => .v t.d) (fun r' _ => r' = r) (fun _ => False)) (hg : Gl X f := by rfl) (hdb : (f == ("__debug__" : Str)) = false := by decide)
    (he : starEach (e :: es) X.env = (false, eval e X.env) :: starEach es X.env := by rfl) (hpl : (backTo pos (starEach es X.env)).any (·.1) = false := by rfl) : Ev X (.Call (.Name f p) (e :: es) [] pos) ρ r ρ1 := by
  obtain ⟨fa, fd, ps, F, hm, hk, hb⟩ := Fd
  refine ev_of (pe_callS F hr hg hm hk hb passE0 (pa_u X (e :: es)) hdb he hpl) fun B F0 st vst σ H Q hl R0 kk => ha.frz B F0 st vst σ H _ hl R0 fun vs H1 hl1 R1 => ?_
  have R2 := rl_v (ts.map T.d) (by simpa [List.map_map, Function.comp_def] using R1)
  have hl2 : vs.length = (ts.map T.d).length := by simpa using hl1
  obtain ⟨F', _, Rc, back, _⟩ := R2.callee hl2
  refine ⟨H1, F', ts.map fun t => .v t.d, _, _, hl1, by simpa [List.map_map, Function.comp_def] using Rc, hR, fun r' ts' v H' e h => ?_, fun _ _ _ _ _ h _ _ => h.elim⟩
  subst e
  exact kk v H' (back _ _ _ _ _ h)
end
/-! ### statements -/
structure Outs where
  nx : Rho → Prop
  rt : T → Rho → Prop
  bk : Rho → Prop := fun _ => False
  ct : Rho → Prop := fun _ => False
  ex : Xn → Rho → Prop := fun _ _ => False
def tSs (X : Cx) (sts : List Stmt) : TS := fun D σ H => ∃ t, PSs X sts t ∧ t D σ H
def tSt (X : Cx) (st : Stmt) : TS := fun D σ H => ∃ t, PS X st t ∧ t D σ H
theorem pss_u (X : Cx) (sts : List Stmt) : PSs X sts (tSs X sts) := ⟨fun pins s σ H D I h => let ⟨_, p, q⟩ := h; p.run pins s σ H D I q⟩
theorem ps_u (X : Cx) (st : Stmt) : PS X st (tSt X st) := ⟨fun pins s σ H D I h => let ⟨_, p, q⟩ := h; p.run pins s σ H D I q⟩
/-- the ends wished for follow from those told -/
structure Meets (K : PySem.W.Frag) (B F0 : Hp) (D : Outs) (De : Ends) (Wx : WX) : Prop where
  nx : ∀ ρ σ H, D.nx ρ → Rl K B F0 ρ σ H → De.nx σ H
  rt : ∀ r ρ v σ H, D.rt r ρ → Rl K B F0 (some r :: ρ) (some v :: σ) H → De.rt v H
  bk : ∀ ρ σ H, D.bk ρ → Rl K B F0 ρ σ H → De.bk σ H
  ct : ∀ ρ σ H, D.ct ρ → Rl K B F0 ρ σ H → De.ct σ H
  ex : ∀ x ρ cls d F σ H, D.ex x ρ → RlF K B F0 F ρ σ H → XDen K F x cls d → Wx cls d σ H
def S (X : Cx) (sts : List Stmt) (ρ : Rho) (D : Outs) : Prop := ∀ (B F0 : Hp) (σ : St) (H : Hp) (De : Ends) (Wx : WX), Takes X Wx → Rl X.K B F0 ρ σ H → Meets X.K B F0 D De Wx → tSs X sts De σ H
def S1 (X : Cx) (st : Stmt) (ρ : Rho) (D : Outs) : Prop := ∀ (B F0 : Hp) (σ : St) (H : Hp) (De : Ends) (Wx : WX), Takes X Wx → Rl X.K B F0 ρ σ H → Meets X.K B F0 D De Wx → tSt X st De σ H
section
variable {X : Cx} {e a b c : Expr} {es rest : List Expr} {ρ ρ1 ρ2 ρ3 : Rho} {d x y z : D} {r t : T} {ts : List T} {ds : List D} {pos p p2 : Pos} {i k : Nat} {bo bo' : Bool} {f : Str} {R : Pr} {xn : Xn} {Z : Outs} {st : Stmt} {sts body : List Stmt}
theorem s_nil (h : Z.nx ρ) : S X [] ρ Z := fun B F0 σ H De Wx tk R m => ⟨_, pss_nil, m.nx ρ σ H h R⟩
theorem s_cons (h : S1 X st ρ { Z with nx := fun ρ1 => S X sts ρ1 Z }) : S X (st :: sts) ρ Z := fun B F0 σ H De Wx tk R m =>
  ⟨_, pss_cons (ps_u X st) (pss_u X sts), h B F0 σ H _ Wx tk R ⟨fun ρ1 σ1 H1 h1 R1 => h1 B F0 σ1 H1 De Wx tk R1 m, m.rt, m.bk, m.ct, m.ex⟩⟩
theorem s1_of {t : TS} (ht : PS X st t) (h : ∀ (B F0 : Hp) (σ : St) (H : Hp) (De : Ends) (Wx : WX), Takes X Wx → Rl X.K B F0 ρ σ H → Meets X.K B F0 Z De Wx → t De σ H) : S1 X st ρ Z := fun B F0 σ H De Wx tk R m => ⟨t, ht, h B F0 σ H De Wx tk R m⟩
theorem S.imp {Z' : Outs} (h : S X sts ρ Z) (h1 : ∀ ρ, Z.nx ρ → Z'.nx ρ) (h2 : ∀ r ρ, Z.rt r ρ → Z'.rt r ρ) (h3 : ∀ ρ, Z.bk ρ → Z'.bk ρ) (h4 : ∀ ρ, Z.ct ρ → Z'.ct ρ) (h5 : ∀ x ρ, Z.ex x ρ → Z'.ex x ρ) : S X sts ρ Z' := fun B F0 σ H De Wx tk R m =>
  h B F0 σ H De Wx tk R ⟨fun ρ1 σ1 H1 q => m.nx ρ1 σ1 H1 (h1 _ q), fun r ρ1 v σ1 H1 q => m.rt r ρ1 v σ1 H1 (h2 _ _ q), fun ρ1 σ1 H1 q => m.bk ρ1 σ1 H1 (h3 _ q), fun ρ1 σ1 H1 q => m.ct ρ1 σ1 H1 (h4 _ q), fun x ρ1 cls d F σ1 H1 q => m.ex x ρ1 cls d F σ1 H1 (h5 _ _ q)⟩
theorem s_ret (he : Ev X e ρ r ρ1) (h : Z.rt r ρ1) : S1 X (.Return (some e) pos) ρ Z := s1_of (ps_ret (pe_u X e)) fun B F0 σ H De Wx tk R m => he B F0 [] [] σ H _ rfl R fun v H1 R1 => m.rt r ρ1 v σ H1 h R1
theorem s_expr (he : Ev X e ρ r ρ1) (h : Z.nx ρ1) (hs : swapsWith e none pos.line X.env = pure false := by rfl) : S1 X (.Expr e pos) ρ Z := s1_of (ps_expr (pe_u X e) hs) fun B F0 σ H De Wx tk R m => he B F0 [] [] σ H _ rfl R fun v H1 R1 => m.nx ρ1 σ H1 h R1.drop
theorem s_if (hc : Tv X c ρ bo ρ1) (h1 : bo = true → S X sts ρ1 Z) (h2 : bo = false → S X body ρ1 Z) : S1 X (.If c sts body pos) ρ Z := s1_of (ps_if (pt_u X c) (pss_u X sts) (pss_u X body)) fun B F0 σ H De Wx tk R m => hc B F0 [] [] σ H _ rfl R fun H1 R1 => by
  cases bo with
  | true => exact iteT (h1 rfl B F0 σ H1 De Wx tk R1 m)
  | false => exact iteF (h2 rfl B F0 σ H1 De Wx tk R1 m)
/-- x = e, x the name in slot i -/
theorem s_set {x : Str} {pos' : Pos} (i : Nat) (g : Gd X) (he : Ev X e ρ r ρ1) (h : Z.nx (ρ1.set i (some r))) (hi : X.N[i]? = some x := by rfl) (hx : Loc X.env.scope x := by first | exact Or.inl rfl | exact Or.inr rfl) (hs : swapsWith e (some (.Name x pos')) pos.line X.env = pure false := by rfl)
    (hf : X.fn x = true ∨ X.env.scope.names.lookup x = some .local := by first | exact .inl rfl | exact .inr rfl) : S1 X (.Assign [.Name x pos'] e pos) ρ Z :=
  s1_of (ps_set g.nd hi hx (pe_u X e) hs hf) fun B F0 σ H De Wx tk R m => he B F0 [] [] σ H _ rfl R fun v H1 R1 => m.nx _ _ H1 h R1.setS
/-! ### targets -/
/-- v goes to the target: the slots behind it -/
def Tg (X : Cx) (tg : Expr) (d : D) (ρ ρ' : Rho) : Prop := ∀ (B F0 : Hp) (σ : St) (H : Hp) (v : V) (Q : St → Hp → Prop), Rl X.K B F0 (some (.v d) :: ρ) (some v :: σ) H → (∀ σ' H', Rl X.K B F0 ρ' σ' H' → Q σ' H') → ∃ g, PG X tg g ∧ g v σ H Q
def tG (X : Cx) (tg : Expr) : TG := fun v σ H Q => ∃ g, PG X tg g ∧ g v σ H Q
theorem pg_u (X : Cx) (tg : Expr) : PG X tg (tG X tg) := ⟨fun pins s σ H v u Q I r h => let ⟨_, p, q⟩ := h; p.run pins s σ H v u Q I r q⟩
theorem tg_name {x : Str} (i : Nat) (g : Gd X) (hi : X.N[i]? = some x := by rfl) (hx : Loc X.env.scope x := by first | exact Or.inl rfl | exact Or.inr rfl) (hf : X.fn x = true ∨ X.env.scope.names.lookup x = some .local := by first | exact .inl rfl | exact .inr rfl) :
    Tg X (.Name x pos) d ρ (ρ.set i (some (.v d))) := fun B F0 σ H v Q R k => ⟨_, pg_name g.nd hi hx hf, k _ H R.setS⟩
/-- several -/
def TgS (X : Cx) (tgs : List Expr) (ds : List D) (ρ ρ' : Rho) : Prop := ∀ (B F0 : Hp) (σ : St) (H : Hp) (vs : List V) (Q : St → Hp → Prop), Rl X.K B F0 ρ σ H → DenL X.K F0 vs ds → (∀ σ' H', Rl X.K B F0 ρ' σ' H' → Q σ' H') → ∃ g, PGs X tgs g ∧ g vs σ H Q
def tGs (X : Cx) (tgs : List Expr) : TGs := fun vs σ H Q => ∃ g, PGs X tgs g ∧ g vs σ H Q
theorem pgs_u (X : Cx) (tgs : List Expr) : PGs X tgs (tGs X tgs) := ⟨fun pins s σ H vs us Q I r h => let ⟨_, p, q⟩ := h; p.run pins s σ H vs us Q I r q⟩
theorem tgs_nil : TgS X [] [] ρ ρ := fun B F0 σ H vs Q R hd k => ⟨_, pgs_nil, by cases hd; rfl, k σ H R⟩
theorem tgs_cons {tg : Expr} {tgs : List Expr} (h1 : Tg X tg d ρ ρ1) (h2 : TgS X tgs ds ρ1 ρ2) (hs : (assignEach (tg :: tgs) X.env).map (·.2) = assign tg X.env :: (assignEach tgs X.env).map (·.2) := by rfl) : TgS X (tg :: tgs) (d :: ds) ρ ρ2 := fun B F0 σ H vs Q R hd k => by
  cases hd with
  | @cons v _ vs' _ q1 q2 =>
    exact ⟨_, pgs_cons (pg_u X tg) (pgs_u X tgs) hs, v, vs', rfl, h1 B F0 σ H v _ (R.pushF q1) fun σ1 H1 R1 => h2 B F0 σ1 H1 vs' Q R1 q2 k⟩
/-- a, b, .. = a tuple -/
theorem tg_tup {tgs : List Expr} {kx : Nat} (g : Gd X) (h : TgS X tgs ds ρ ρ1) (hl : ds.length = tgs.length) (hn : (assignEach tgs X.env).length = tgs.length := by rfl) (hst : (assignEach tgs X.env).findIdx? (·.1) = none := by rfl) : Tg X (.Tuple tgs kx pos) (.tup ds) ρ ρ1 := fun B F0 σ H v Q R k => by
  obtain ⟨F, R1, hd⟩ := R.elimF
  cases hd with
  | tup hq q =>
    refine ⟨_, pg_tup g.calm (pgs_u X tgs) hn hst, _, _, rfl, SqT.of (by obtain ⟨A, e0, e1, _⟩ := R1; exact e1.t hq), by rw [q.length, hl], h B F σ H _ Q R1.self.rl q fun σ' H' R' => k σ' H' (R1.reL R')⟩
theorem s_asg {tg : Expr} (he : Ev X e ρ (.v d) ρ1) (ht : Tg X tg d ρ1 ρ2) (h : Z.nx ρ2) (hs : swapsWithSole [tg] e pos.line X.env = pure false := by rfl) (hw : swappedStores [tg] e X.env = pure none := by rfl)
    (h1 : (assignEach [tg] X.env).map (·.2) = [assign tg X.env] := by rfl) : S1 X (.Assign [tg] e pos) ρ Z := s1_of (ps_asg (pe_u X e) (pg_u X tg) hs hw h1) fun B F0 σ H De Wx tk R m => he B F0 [] [] σ H _ rfl R fun v H1 R1 => ht B F0 σ H1 v _ R1 fun σ' H' R' => m.nx ρ2 σ' H' h R'
theorem s_while {W : Nat → Rho → Prop} {m0 : Nat} (g : Gd X) (h0 : W m0 ρ) (hs : ∀ m ρ', W m ρ' → ∃ bo ρ2, Tv X c ρ' bo ρ2 ∧ (bo = true → ∃ N : Rho → Prop, (∀ ρ3, N ρ3 → ∃ m', m' < m ∧ W m' ρ3) ∧ S X body ρ2 { Z with nx := N, ct := N, bk := Z.nx }) ∧ (bo = false → Z.nx ρ2)) : S1 X (.While c body [] pos) ρ Z :=
  s1_of (ps_while g.own (pt_u X c) (pss_u X body)) fun B F0 σ H De Wx tk R mm => by
    refine ⟨fun m σ' H' => ∃ ρ', W m ρ' ∧ Rl X.K B F0 ρ' σ' H', ⟨m0, ρ, h0, R⟩, ?_⟩
    rintro m σ' H' ⟨ρ', hW, R'⟩
    obtain ⟨bo, ρ2, ht, h1, h2⟩ := hs m ρ' hW
    refine ht B F0 [] [] σ' H' _ rfl R' fun H1 R1 => ?_
    cases bo with
    | true =>
      obtain ⟨N, hN, hb⟩ := h1 rfl
      refine iteT ⟨fun σ2 H2 => ∃ ρ3, N ρ3 ∧ Rl X.K B F0 ρ3 σ2 H2, ?_, hb B F0 σ' H1 _ Wx tk R1 ⟨fun ρ σ H h R => ⟨ρ, h, R⟩, mm.rt, mm.nx, fun ρ σ H h R => ⟨ρ, h, R⟩, mm.ex⟩⟩
      rintro σ2 H2 ⟨ρ3, hN3, R3⟩
      obtain ⟨m', hlt, hW'⟩ := hN ρ3 hN3
      exact ⟨m', hlt, ρ3, hW', R3⟩
    | false => exact iteF (mm.nx ρ2 σ' H1 (h2 rfl) R1)
end
end Vl
end
section
set_option maxRecDepth 100000
namespace Vl
open PySem L2
/-- the slot of a list that a call has changed -/
def reT : T → T → T
  | .at_ a _, u => .at_ a u
  | _, u => u
section
variable {K : PySem.W.Frag} {B F0 F F' H H' : Hp} {ρ ρ' st : Rho} {σ σ' vst : St} {v : V} {d : D} {t r u u' : T}
theorem Rl.takeN {ρ1 ρ2 : Rho} {σ1 σ2 : St} (l1 : σ1.length = ρ1.length) (h : Rl K B F0 (ρ1 ++ ρ2) (σ1 ++ σ2) H) : Rl K B F0 ρ1 σ1 H := by
  obtain ⟨F, A, e0, e1, e2, dm, o, nd, fr⟩ := h
  obtain ⟨A1, A2, rfl, o1, o2⟩ := o.split l1
  exact ⟨F, A1, e0, e1, e2, dm, o1, (List.nodup_append.mp nd).1, fun a ha => fr a (List.mem_append_left _ ha)⟩
theorem Rl.tailv {ds : List D} {vs : List V} (hd : DenL K F0 vs ds) (h : Rl K B F0 ρ σ H) : Rl K B F0 (ρ ++ (ds.map T.v).map some) (σ ++ vs.map some) H := by
  obtain ⟨F, A, e0, e1, e2, dm, o, nd, fr⟩ := h
  refine ⟨F, A ++ [], e0, e1, e2, dm, o.append (OwnS.ofL (OwnL.ofDen (hd.mono e0))), by simpa using nd, fun a ha => fr a (by simpa using ha)⟩
/-- a call whose first argument is an owned thing of slot i -/
theorem Rl.calleeG {ds : List D} {vs : List V} {i : Nat} {u0 : T} {t1 : T} (h : Rl K B F0 ((ds.map fun d => some (.v d)) ++ (st ++ ρ)) (vs.map some ++ (vst ++ σ)) H) (hl : vs.length = ds.length) (hl2 : vst.length = st.length) (hi : ρ[i]? = some (some t1)) (ht : t1 = u0 ∨ ∃ a, t1 = .at_ a u0)
    (hna : ∀ a u, u0 ≠ .at_ a u) (hu0 : ∀ (F H : Hp) (v : V) (A : List Addr), Own K F H v u0 A → ∃ a, v = .ref a) :
    ∃ (B' F : Hp) (a : Addr), σ[i]? = some (some (.ref a)) ∧ (∀ a', t1 = .at_ a' u0 → a' = a) ∧ Rl K B' F (some (.at_ a u0) :: (ds.map T.v).map some) (some (.ref a) :: vs.map some) H ∧
      (∀ ρ2 σ2 r v u' H', Rl K B' F (some r :: some (.at_ a u') :: ρ2) (some v :: some (.ref a) :: σ2) H' → Rl K B F0 (some r :: (st ++ ρ.set i (some (reT t1 u')))) (some v :: (vst ++ σ)) H') := by
  obtain ⟨F, A, e0, e1, e2, dm, o, nd, fr⟩ := h
  obtain ⟨A1, A2, rfl, o1, o2⟩ := o.split (by simpa using hl)
  obtain ⟨rfl, q⟩ := OwnS.allv o1
  obtain ⟨A3, A4, rfl, o3, o4⟩ := o2.split hl2
  obtain ⟨v, B1, B2, B3, e3, rfl, o5, kk, _⟩ := o4.at hi
  rw [List.nil_append] at nd
  have fr2 : ∀ a ∈ A3 ++ (B1 ++ (B2 ++ B3)), F a = none ∧ B a = none := fun a ha => fr a (by simpa using ha)
  obtain ⟨a, ev, oa⟩ : ∃ a, v = .ref a ∧ Own K F H (.ref a) u0 B2 ∧ ∀ a', t1 = .at_ a' u0 → a' = a := by
    rcases ht with rfl | ⟨a', rfl⟩
    · obtain ⟨a, rfl⟩ := hu0 _ _ _ _ o5
      exact ⟨a, rfl, o5, fun a' e => absurd e (hna _ _)⟩
    · cases o5 with
      | at_ h1 => exact ⟨_, rfl, h1, fun a'' e => by cases e; rfl⟩
  subst ev
  obtain ⟨oa, hat⟩ := oa
  classical
  let B' : Hp := fun b => if b ∈ B2 then none else H b
  have b1 : ∀ b ∈ B2, B' b = none := fun b hb => if_pos hb
  have b2 : ∀ b, b ∉ B2 → B' b = H b := fun b hb => if_neg hb
  obtain ⟨n1, n2, n3⟩ := List.nodup_append.mp nd
  obtain ⟨n4, n5, n6⟩ := List.nodup_append.mp n2
  obtain ⟨n7, n8, n9⟩ := List.nodup_append.mp n5
  have eB : ∀ F'' : Hp, Bas B' F'' H := fun F'' b u z => by
    by_cases hb : b ∈ B2
    · rw [b1 b hb] at z; cases z
    · rw [b2 b hb] at z; exact .inl z
  refine ⟨B', F, a, e3, hat, ⟨F, B2, Same.refl _, e1, eB _, fun b u z => .inl ⟨u, z⟩, ?_, n7, fun b hb => ⟨(fr2 b (by simp [hb])).1, b1 b hb⟩⟩, fun ρ2 σ2 r v u' H' h => ?_⟩
  · have := OwnS.cons (Own.at_ oa) (OwnS.ofL (OwnL.ofDen (H := H) q))
    simpa using this
  · obtain ⟨F', A', e0', e1', e2', dm', o', nd', fr'⟩ := h
    cases o' with
    | @cons _ _ _ _ C1 C' c1 c' =>
      cases c' with
      | @cons _ _ _ _ C2 C3 c2 c3 =>
        have hc2 : Own K F' H' (.ref a) u' C2 := by cases c2 with | at_ z => exact z
        obtain ⟨m1, m2, m3⟩ := List.nodup_append.mp nd'
        obtain ⟨m4, m5, m6⟩ := List.nodup_append.mp m2
        have old : ∀ b ∈ A3 ++ (B1 ++ B3), b ∉ B2 ∧ (∃ w, H b = some w) := fun b hb => by
          rcases List.mem_append.mp hb with hb | hb
          · exact ⟨fun hc => n3 b hb b (by simp [hc]) rfl, o3.there b hb⟩
          · rcases List.mem_append.mp hb with hb | hb
            · exact ⟨fun hc => n6 b hb b (by simp [hc]) rfl, o4.there b (by simp [hb])⟩
            · exact ⟨fun hc => n9 b hc b hb rfl, o4.there b (by simp [hb])⟩
        have fz : ∀ b ∈ A3 ++ (B1 ++ B3), F b = none ∧ B b = none := fun b hb => fr2 b (by
          simp only [List.mem_append] at hb ⊢
          rcases hb with z | z | z <;> simp [z])
        have fnn : ∀ b ∈ A3 ++ (B1 ++ B3), F' b = none := fun b hb => none_of_ne fun w hw => by
          rcases dm' b w hw with ⟨w', z'⟩ | z'
          · rw [(fz b hb).1] at z'; cases z'
          · obtain ⟨z1, w2, z2⟩ := old b hb
            rw [b2 b z1, z2] at z'; cases z'
        have keep : ∀ b ∈ A3 ++ (B1 ++ B3), ∀ w, H b = some w → H' b = some w := fun b hb w hw => by
          rcases e2' b w (by rw [b2 b (old b hb).1]; exact hw) with q | ⟨q, _⟩
          · exact q
          · rw [fnn b hb] at q; cases q
        have isnew : ∀ b ∈ C1 ++ C2, b ∉ A3 ++ (B1 ++ B3) := fun b hb hc => by
          have z := (fr' b (by rcases List.mem_append.mp hb with z | z <;> simp [z])).2
          obtain ⟨z1, w, z2⟩ := old b hc
          rw [b2 b z1, z2] at z; cases z
        have o6 : Own K F' H' (.ref a) (reT t1 u') C2 := by
          rcases ht with rfl | ⟨a', rfl⟩
          · have : reT t1 u' = u' := by
              cases t1 <;> first | rfl | exact absurd rfl (hna _ _)
            rw [this]
            exact hc2
          · have ea := hat a' rfl
            subst ea
            exact .at_ hc2
        have es : σ.set i (some (.ref a)) = σ := set_self e3
        have o7 := kk F' H' (.ref a) (reT t1 u') C2 e0' (fun b hb w hw => keep b (List.mem_append_right _ hb) w hw) o6
        rw [es] at o7
        have o8 := OwnS.cons c1 ((o3.mono e0' fun b hb w hw => keep b (List.mem_append_left _ hb) w hw).append o7)
        refine ⟨F', C1 ++ (A3 ++ (B1 ++ (C2 ++ B3))), e0.trans e0', e1', fun b w z => ?_, fun b w z => ?_, o8, ?_, fun b hb => ?_⟩
        · have hb : b ∉ B2 := fun hb => by
            rw [(fr2 b (by simp [hb])).2] at z; cases z
          rcases e2 b w z with q | ⟨q, o9, kvs, e9, q2⟩
          · exact e2' b w (by rw [b2 b hb]; exact q)
          · rcases e2' b _ (by rw [b2 b hb]; exact q2) with w9 | ⟨_, _, _, e3, _⟩
            · exact .inr ⟨e0' b w q, o9, kvs, e9, w9⟩
            · cases e3
        · rcases dm' b w z with ⟨w', z'⟩ | z'
          · exact dm b w' z'
          · by_cases hb : b ∈ B2
            · exact .inr (fr2 b (by simp [hb])).2
            · rw [b2 b hb] at z'; exact .inr (e2.free z')
        · have pm : (C1 ++ (A3 ++ (B1 ++ (C2 ++ B3)))).Perm ((C1 ++ C2) ++ (A3 ++ (B1 ++ B3))) := by
            have p1 : (A3 ++ (B1 ++ (C2 ++ B3))).Perm (C2 ++ (A3 ++ (B1 ++ B3))) := by
              have h1 : (B1 ++ (C2 ++ B3)).Perm (C2 ++ (B1 ++ B3)) := by
                rw [← List.append_assoc, ← List.append_assoc]
                exact List.Perm.append_right _ List.perm_append_comm
              have h2 : (A3 ++ (C2 ++ (B1 ++ B3))).Perm (C2 ++ (A3 ++ (B1 ++ B3))) := by
                have := List.Perm.append_right (B1 ++ B3) (List.perm_append_comm (l₁ := A3) (l₂ := C2))
                simpa [List.append_assoc] using this
              exact (h1.append_left A3).trans h2
            rw [List.append_assoc]
            exact p1.append_left C1
          have sub : List.Sublist (A3 ++ (B1 ++ B3)) (A3 ++ (B1 ++ (B2 ++ B3))) := List.Sublist.append (List.Sublist.refl _) (List.Sublist.append (List.Sublist.refl _) (List.sublist_append_right _ _))
          refine pm.nodup_iff.mpr (List.nodup_append.mpr ⟨List.nodup_append.mpr ⟨m1, m4, fun b hb c hc e => m3 b hb c (by simp [hc]) e⟩, nd.sublist sub, fun b hb c hc e => isnew b hb (e ▸ hc)⟩)
        · have hb' : b ∈ C1 ++ C2 ∨ b ∈ A3 ++ (B1 ++ B3) := by
            simp only [List.mem_append] at hb ⊢
            rcases hb with z | z | z | z | z <;> simp [z]
          rcases hb' with hb | hb
          · have z := fr' b (by rcases List.mem_append.mp hb with z | z <;> simp [z])
            refine ⟨z.1, ?_⟩
            by_cases hc : b ∈ B2
            · exact (fr2 b (by simp [hc])).2
            · rw [b2 b hc] at z; exact e2.free z.2
          · exact ⟨fnn b hb, (fz b hb).2⟩
theorem Rl.calleeM {ds : List D} {vs : List V} {i : Nat} {us : List T} {t1 : T} (h : Rl K B F0 ((ds.map fun d => some (.v d)) ++ (st ++ ρ)) (vs.map some ++ (vst ++ σ)) H) (hl : vs.length = ds.length) (hl2 : vst.length = st.length) (hi : ρ[i]? = some (some t1)) (ht : t1 = .lst us ∨ ∃ a, t1 = .at_ a (.lst us)) :
    ∃ (B' F : Hp) (a : Addr), σ[i]? = some (some (.ref a)) ∧ (∀ a', t1 = .at_ a' (.lst us) → a' = a) ∧ Rl K B' F (some (.at_ a (.lst us)) :: (ds.map T.v).map some) (some (.ref a) :: vs.map some) H ∧
      (∀ ρ2 σ2 r v u' H', Rl K B' F (some r :: some (.at_ a u') :: ρ2) (some v :: some (.ref a) :: σ2) H' → Rl K B F0 (some r :: (st ++ ρ.set i (some (reT t1 u')))) (some v :: (vst ++ σ)) H') :=
  h.calleeG hl hl2 hi ht (fun _ _ e => by cases e) fun F H v A o => by
    cases o with
    | lst _ _ => exact ⟨_, rfl⟩
end
section
variable {X : Cx} {e a b c : Expr} {es rest : List Expr} {ρ ρ1 ρ2 ρ3 : Rho} {d x y z : D} {r t u' : T} {ts us : List T} {ds : List D} {pos p p2 : Pos} {i k : Nat} {bo bo' : Bool} {f xa : Str} {R : Pr} {xn : Xn}
end
/-! ### a def and its body -/
section
variable {P : Program} {w : World} {K : PySem.W.Frag} {mg : Str → Option Value} {base : Heap}
abbrev cxD (P : Program) (w : World) (K : PySem.W.Frag) (mg : Str → Option Value) (base : Heap) (N : List Str) (qual : Str) (st : Stmt) (f : Addr) (cdv : Value) (A : Around) (outer : List Env) (s : Shared) (H : Hp) (E : XK) : Cx :=
  cxOf (L2.CX P w) P w K mg base N qual (defScope st) f cdv A outer s H E
theorem gd_of {N ps : List Str} {qual : Str} {st : Stmt} {f : Addr} {cdv : Value} {A : Around} {outer : List Env} {s : Shared} {H : Hp} {E : XK} {k : Nat} (S : FnScope N ps (defScope st)) (hr : Room k (cxD P w K mg base N qual st f cdv A outer s H E).A) : Gd (cxD P w K mg base N qual st f cdv A outer s H E) :=
  ⟨passes_of rfl, rfl, S.nd, hr.units⟩
/-- a def all of whose arguments are only read -/
theorem fn_v {x qual : Str} {st : Stmt} {f : Addr} {fd : FuncData} {N ps : List Str} {k : Nat} {R : Pr} (F : Fun K x qual st f fd) (S' : FnScope N ps (defScope st)) (hm : mg x = some (.ref f)) (hb : Binds K fd ps [])
    (hR : ∀ ts Qt Qx, R ts Qt Qx → ∃ ds : List D, ts = ds.map T.v ∧ ds.length = ps.length) (hN : ps.length ≤ N.length)
    (hbody : ∀ (cdv : Value) (A : Around) (outer : List Env) (s : Shared) (H : Hp) (E : XK) (ds : List D) (Qt : T → List T → Prop) (Qx : Xn → Prop), Room k (cxD P w K mg base N qual st f cdv A outer s H E).A → R (ds.map T.v) Qt Qx →
      S (cxD P w K mg base N qual st f cdv A outer s H E) (defBody st) ((ds.map fun d => some (T.v d)) ++ List.replicate (N.length - ds.length) none) { nx := fun _ => Qt (.v .non) (ds.map T.v), rt := fun r _ => Qt r (ds.map T.v), ex := fun x _ => Qx x }) : Fn P w K mg base (k + 1) x R := by
  refine ⟨f, fd, ps, F.okX S' (fun vs H Q E h => ?_) (fun cdv A outer s H vs Q E hr h => ?_), hm, F.kp, hb⟩
  · obtain ⟨B, F0, ts, Qt, Qx, hl, _, h, _⟩ := h
    obtain ⟨ds, rfl, hd⟩ := hR _ _ _ h
    rw [hl]; simpa using hd
  · obtain ⟨B, F0, ts, Qt, Qx, hl, R0, h, k1, k2⟩ := h
    obtain ⟨ds, rfl, hd⟩ := hR _ _ _ h
    have hl' : vs.length = ds.length := by simpa using hl
    obtain ⟨F', RF⟩ := R0
    have hden : DenL K F' vs ds := by
      obtain ⟨A', _, _, _, _, o, _⟩ := RF
      have o' : OwnS K F' H (vs.map some) (ds.map fun d => some (T.v d)) A' := by simpa [List.map_map, Function.comp_def] using o
      exact (OwnS.allv o').2
    refine ⟨_, pss_u _ _, ?_⟩
    have R1 : Rl K B F' ((ds.map fun d => some (T.v d)) ++ List.replicate (N.length - ds.length) none) (L2.start N vs) H := by
      obtain ⟨A', e0, e1, e2, dm, o, nd, fr⟩ := RF.self
      have o' : OwnS K F' H (vs.map some) (ds.map fun d => some (T.v d)) A' := by simpa [List.map_map, Function.comp_def] using o
      have pad : ∀ n, OwnS K F' H (List.replicate n none) (List.replicate n none) [] := fun n => by
        induction n with
        | zero => exact .nil
        | succ n ih => exact .skip ih
      refine ⟨F', A' ++ [], e0, e1, e2, dm, ?_, by simpa using nd, fun a ha => fr a (by simpa using ha)⟩
      unfold L2.start
      rw [hl']
      exact o'.append (pad _)
    have back : ∀ {r : T} {v : V} {ρ2 : Rho} {σ2 : St} {H2 : Hp}, Rl K B F' (some r :: ρ2) (some v :: σ2) H2 → Rl K B F0 (some r :: (ds.map T.v).map some) (some v :: vs.map some) H2 := fun {r v ρ2 σ2 H2} R2 => by
      have R3 := Rl.takeN (ρ1 := [some r]) (σ1 := [some v]) rfl R2
      exact RF.reL (Rl.tailv hden R3)
    refine hbody cdv A outer s H E ds Qt Qx hr h B F' (L2.start N vs) H _ (fun cls d _ H2 => E cls d H2) (takes_of rfl rfl rfl rfl) R1 ⟨fun ρ2 σ2 H2 q R2 => ?_, fun r ρ2 v σ2 H2 q R2 => ?_, fun _ _ _ q => q.elim, fun _ _ _ q => q.elim, fun x' ρ2 cls d F2 σ2 H2 q R2 hx => ?_⟩
    · exact k1 _ _ _ H2 q (back (R2.pushS fun _ => .non))
    · exact k1 _ _ _ H2 q (back R2)
    · refine k2 x' cls d F2 H2 q ?_ hx
      have R3 := RF.re R2
      obtain ⟨A', e0, e1, e2, dm, o, nd, fr⟩ := R3
      exact ⟨[], e0, e1, e2, dm, .nil, List.nodup_nil, fun a ha => by cases ha⟩
/-- a def whose first argument is a thing that it may change -/
theorem fnok_m {x qual : Str} {st : Stmt} {f : Addr} {fd : FuncData} {N ps : List Str} {k : Nat} {R : Pr} (F : Fun K x qual st f fd) (S' : FnScope N ps (defScope st))
    (hR : ∀ ts Qt Qx, R ts Qt Qx → ∃ (a : Addr) (u : T) (ds : List D), ts = .at_ a u :: ds.map T.v ∧ ds.length + 1 = ps.length) (hN : ps.length ≤ N.length)
    (hbody : ∀ (cdv : Value) (A : Around) (outer : List Env) (s : Shared) (H : Hp) (E : XK) (a : Addr) (u : T) (ds : List D) (Qt : T → List T → Prop) (Qx : Xn → Prop), Room k (cxD P w K mg base N qual st f cdv A outer s H E).A → R (.at_ a u :: ds.map T.v) Qt Qx →
      S (cxD P w K mg base N qual st f cdv A outer s H E) (defBody st) (some (.at_ a u) :: ((ds.map fun d => some (T.v d)) ++ List.replicate (N.length - (ds.length + 1)) none)) { nx := fun ρ => ∃ u', ρ[0]? = some (some (.at_ a u')) ∧ Qt (.v .non) (.at_ a u' :: ds.map T.v), rt := fun r ρ => ∃ u', ρ[0]? = some (some (.at_ a u')) ∧ Qt r (.at_ a u' :: ds.map T.v), ex := fun x _ => Qx x }) : FnOk P w K mg base (L2.CX P w) (k + 1) f fd ps (spF K R) := by
  refine F.okX S' (fun vs H Q E h => ?_) (fun cdv A outer s H vs Q E hr h => ?_)
  · obtain ⟨B, F0, ts, Qt, Qx, hl, _, h, _⟩ := h
    obtain ⟨a, u, ds, rfl, hd⟩ := hR _ _ _ h
    rw [hl]; simpa using hd
  · obtain ⟨B, F0, ts, Qt, Qx, hl, R0, h, k1, k2⟩ := h
    obtain ⟨a, u, ds, rfl, hd⟩ := hR _ _ _ h
    cases vs with
    | nil => simp at hl
    | cons v0 vs =>
      have hl' : vs.length = ds.length := by simpa using hl
      obtain ⟨F', RF⟩ := R0
      obtain ⟨ev, hden⟩ : v0 = .ref a ∧ DenL K F' vs ds := by
        obtain ⟨A', _, _, _, _, o, _⟩ := RF
        cases o with
        | cons o1 o2 =>
          refine ⟨?_, (OwnS.allv (by simpa [List.map_map, Function.comp_def] using o2)).2⟩
          cases o1 with
          | at_ _ => rfl
      subst ev
      refine ⟨_, pss_u _ _, ?_⟩
      have R1 : Rl K B F' (some (.at_ a u) :: ((ds.map fun d => some (T.v d)) ++ List.replicate (N.length - (ds.length + 1)) none)) (L2.start N (.ref a :: vs)) H := by
        obtain ⟨A', e0, e1, e2, dm, o, nd, fr⟩ := RF.self
        have o' : OwnS K F' H (some (.ref a) :: vs.map some) (some (.at_ a u) :: ds.map fun d => some (T.v d)) A' := by simpa [List.map_map, Function.comp_def] using o
        have pad : ∀ n, OwnS K F' H (List.replicate n none) (List.replicate n none) [] := fun n => by
          induction n with
          | zero => exact .nil
          | succ n ih => exact .skip ih
        refine ⟨F', A' ++ [], e0, e1, e2, dm, ?_, by simpa using nd, fun a ha => fr a (by simpa using ha)⟩
        unfold L2.start
        simp only [List.map_cons, List.length_cons, hl', List.cons_append]
        exact o'.append (pad _)
      have back : ∀ {r u' : T} {v : V} {ρ2 : Rho} {σ2 : St} {H2 : Hp}, ρ2[0]? = some (some (.at_ a u')) → Rl K B F' (some r :: ρ2) (some v :: σ2) H2 → Rl K B F0 (some r :: (.at_ a u' :: ds.map T.v).map some) (some v :: (V.ref a :: vs).map some) H2 := fun {r u' v ρ2 σ2 H2} e R2 => by
        cases ρ2 with
        | nil => simp at e
        | cons x ρ2 =>
          simp only [List.getElem?_cons_zero, Option.some.injEq] at e
          subst e
          cases σ2 with
          | nil =>
            have := R2.len
            simp at this
          | cons y σ2 =>
            have R3 : Rl K B F' ([some r, some (.at_ a u')] ++ ρ2) ([some v, y] ++ σ2) H2 := R2
            have R4 := Rl.takeN (by rfl) R3
            have ey : y = some (.ref a) := by
              obtain ⟨F2, A2, _, _, _, _, o, _⟩ := R4
              cases o with
              | cons _ o =>
                cases o with
                | cons o1 _ =>
                  cases o1 with
                  | at_ _ => rfl
            subst ey
            have := RF.reL (Rl.tailv hden R4)
            simpa using this
      refine hbody cdv A outer s H E a u ds Qt Qx hr h B F' (L2.start N (.ref a :: vs)) H _ (fun cls d _ H2 => E cls d H2) (takes_of rfl rfl rfl rfl) R1 ⟨fun ρ2 σ2 H2 q R2 => ?_, fun r ρ2 v σ2 H2 q R2 => ?_, fun _ _ _ q => q.elim, fun _ _ _ q => q.elim, fun x' ρ2 cls d F2 σ2 H2 q R2 hx => ?_⟩
      · obtain ⟨u', q1, q2⟩ := q
        exact k1 _ _ _ H2 q2 (back q1 (R2.pushS fun _ => .non))
      · obtain ⟨u', q1, q2⟩ := q
        exact k1 _ _ _ H2 q2 (back q1 R2)
      · refine k2 x' cls d F2 H2 q ?_ hx
        have R3 := RF.re R2
        obtain ⟨A', e0, e1, e2, dm, o, nd, fr⟩ := R3
        exact ⟨[], e0, e1, e2, dm, .nil, List.nodup_nil, fun a ha => by cases ha⟩
theorem fn_m {x qual : Str} {st : Stmt} {f : Addr} {fd : FuncData} {N ps : List Str} {k : Nat} {R : Pr} (F : Fun K x qual st f fd) (S' : FnScope N ps (defScope st)) (hm : mg x = some (.ref f)) (hb : Binds K fd ps [])
    (hR : ∀ ts Qt Qx, R ts Qt Qx → ∃ (a : Addr) (u : T) (ds : List D), ts = .at_ a u :: ds.map T.v ∧ ds.length + 1 = ps.length) (hN : ps.length ≤ N.length)
    (hbody : ∀ (cdv : Value) (A : Around) (outer : List Env) (s : Shared) (H : Hp) (E : XK) (a : Addr) (u : T) (ds : List D) (Qt : T → List T → Prop) (Qx : Xn → Prop), Room k (cxD P w K mg base N qual st f cdv A outer s H E).A → R (.at_ a u :: ds.map T.v) Qt Qx →
      S (cxD P w K mg base N qual st f cdv A outer s H E) (defBody st) (some (.at_ a u) :: ((ds.map fun d => some (T.v d)) ++ List.replicate (N.length - (ds.length + 1)) none)) { nx := fun ρ => ∃ u', ρ[0]? = some (some (.at_ a u')) ∧ Qt (.v .non) (.at_ a u' :: ds.map T.v), rt := fun r ρ => ∃ u', ρ[0]? = some (some (.at_ a u')) ∧ Qt r (.at_ a u' :: ds.map T.v), ex := fun x _ => Qx x }) : Fn P w K mg base (k + 1) x R :=
  ⟨f, fd, ps, fnok_m F S' hR hN hbody, hm, F.kp, hb⟩
end
end Vl
end
section
set_option maxRecDepth 100000
namespace Vl
open PySem L2
/-! ### isinstance -/
/-- a class of the text's own, as isinstance asks of it -/
structure ClsI (K : PySem.W.Frag) (C : Addr) : Prop where
  cl : Cls K C
  ha : PySem.W.findIn K (.ref C) "__class__" = some (some (.builtin "object.__class__"))
  hn : PySem.W.specialIn K (.builtin "object.__class__") "__get__" = some (some (.builtin "getset_descriptor.__get__"))
  htk : PySem.W.takesIn K (.builtin "object.__class__") = some true
  hm : PySem.W.mroIn K C (.type "object") = some true
  kint : PySem.W.kitOne K (.ref C) (.type "int") = some false
  kbool : PySem.W.kitOne K (.ref C) (.type "bool") = some false
  kstr : PySem.W.kitOne K (.ref C) (.type "str") = some false
  ktup : PySem.W.kitOne K (.ref C) (.type "tuple") = some false
  klst : PySem.W.kitOne K (.ref C) (.type "list") = some false
  kdic : PySem.W.kitOne K (.ref C) (.type "dict") = some false
def D.tyv : D → Value
  | .non => .type "NoneType" | .bl _ => .type "bool" | .int _ => .type "int" | .str _ => .type "str" | .tup _ => .type "tuple" | .lst _ => .type "list" | .dic _ => .type "dict" | .dit _ => .type "dict" | .obj C _ => .ref C | .ty _ => .type "type" | .ref _ => .none
/-- what isinstance is told of -/
def D.isOk (K : PySem.W.Frag) : D → Prop
  | .obj C _ => ClsI K C
  | .ref _ => False | .ty _ => False | .dit _ => False
  | _ => True
theorem den_tyx {K : PySem.W.Frag} {H : Hp} {v : V} {d : D} (h : Den K H v d) (ok : d.isOk K) : TyX K H v d.tyv := by
  cases h with
  | non => exact .base .non
  | bl b => exact .base (.bl b)
  | int i => exact .base (.int i)
  | str x => exact .base (.str x)
  | ty n => exact ok.elim
  | ref a => exact ok.elim
  | tup h q => exact .base (.tup h)
  | lst h q =>
    rcases h with (h | ⟨o, h⟩) | ⟨o, its, n, h1, h2, _⟩
    · exact .base (.lst h)
    · exact .base (.frz h)
    · exact .kList h1 h2
  | dic h k q =>
    rcases h with h | ⟨o, h⟩
    · exact .base (.dK h)
    · exact .fDict h
  | dit h k q => exact ok.elim
  | obj h k q => exact .base (.ins h ok.cl ok.ha ok.hn ok.htk ok.hm)
def D.isInt : D → Bool | .int _ => true | .bl _ => true | _ => false
def D.isBl : D → Bool | .bl _ => true | _ => false
def D.isStr : D → Bool | .str _ => true | _ => false
def D.isTup : D → Bool | .tup _ => true | _ => false
def D.isLst : D → Bool | .lst _ => true | _ => false
def D.isDic : D → Bool | .dic _ => true | .dit _ => true | _ => false
section
variable {X : Cx} {e a b c : Expr} {es rest : List Expr} {ρ ρ1 ρ2 ρ3 : Rho} {d x y z : D} {r t : T} {ts : List T} {ds : List D} {pos p p2 : Pos} {i k : Nat} {bo bo' : Bool} {f : Str} {R : Pr} {xn : Xn}
theorem ev_bty {n : String} (hm : X.mg f = none) (hv : bootBuiltins f = some (.type n)) (hg : Gl X f := by rfl) (hn : f ≠ "__name__" := by decide) (hdb : (f == ("__debug__" : Str)) = false := by decide) : Ev X (.Name f p) ρ (.v (.ty n)) ρ :=
  ev_of (pe_bltn (v := .ty n) hg hm hv rfl hn hdb) fun B F0 st vst σ H Q hl R k => k _ H (R.pushS fun _ => .ty n)
theorem ev_isi {n : String} (ha : Ev X a ρ (.v d) ρ1) (hb : Ev X b ρ1 (.v (.ty n)) ρ2) (ok : d.isOk X.K) (hk : PySem.W.kitOne X.K d.tyv (.type n) = some bo) (hm : X.mg "isinstance" = none) (hg : Gl X "isinstance" := by rfl)
    (h1 : starEach [a, b] X.env = (false, eval a X.env) :: starEach [b] X.env := by rfl) (h2 : starEach [b] X.env = (false, eval b X.env) :: starEach [] X.env := by rfl) (hpl : (backTo pos (starEach [b] X.env)).any (·.1) = false := by rfl) : Ev X (.Call (.Name "isinstance" p) [a, b] [] pos) ρ (.v (.bl bo)) ρ2 :=
  ev_callB call_isi hm PyProof.Rows.boot_isinstance (eva_cons ha (eva_cons hb eva_nil h2) h1) (fun H vs Q h k => by
    obtain ⟨v, v', rfl, hd, hd'⟩ := denl2 h
    rw [T.d_v] at hd hd'
    cases hd'
    exact ⟨v, .ty n, d.tyv, .type n, bo, rfl, .ty n, den_tyx hd ok, hk, k _ fun _ => .bl _⟩) hg (he := h1) (hpl := hpl)
theorem kit_i {K : PySem.W.Frag} (ok : d.isOk K) : PySem.W.kitOne K d.tyv (.type "int") = some d.isInt := by
  cases d with
  | non => exact kit_ty (a := "NoneType") (r := false) (by decide +kernel)
  | bl => exact kit_ty (a := "bool") (r := true) (by decide +kernel)
  | int => exact kit_ty (a := "int") (r := true) (by decide +kernel)
  | str => exact kit_ty (a := "str") (r := false) (by decide +kernel)
  | tup => exact kit_ty (a := "tuple") (r := false) (by decide +kernel)
  | lst => exact kit_ty (a := "list") (r := false) (by decide +kernel)
  | dic => exact kit_ty (a := "dict") (r := false) (by decide +kernel)
  | obj C fs => exact ok.kint
  | ref a => exact ok.elim
  | ty n => exact ok.elim
  | dit kvs => exact ok.elim
theorem kit_b {K : PySem.W.Frag} (ok : d.isOk K) : PySem.W.kitOne K d.tyv (.type "bool") = some d.isBl := by
  cases d with
  | non => exact kit_ty (a := "NoneType") (r := false) (by decide +kernel)
  | bl => exact kit_ty (a := "bool") (r := true) (by decide +kernel)
  | int => exact kit_ty (a := "int") (r := false) (by decide +kernel)
  | str => exact kit_ty (a := "str") (r := false) (by decide +kernel)
  | tup => exact kit_ty (a := "tuple") (r := false) (by decide +kernel)
  | lst => exact kit_ty (a := "list") (r := false) (by decide +kernel)
  | dic => exact kit_ty (a := "dict") (r := false) (by decide +kernel)
  | obj C fs => exact ok.kbool
  | ref a => exact ok.elim
  | ty n => exact ok.elim
  | dit kvs => exact ok.elim
theorem kit_s {K : PySem.W.Frag} (ok : d.isOk K) : PySem.W.kitOne K d.tyv (.type "str") = some d.isStr := by
  cases d with
  | non => exact kit_ty (a := "NoneType") (r := false) (by decide +kernel)
  | bl => exact kit_ty (a := "bool") (r := false) (by decide +kernel)
  | int => exact kit_ty (a := "int") (r := false) (by decide +kernel)
  | str => exact kit_ty (a := "str") (r := true) (by decide +kernel)
  | tup => exact kit_ty (a := "tuple") (r := false) (by decide +kernel)
  | lst => exact kit_ty (a := "list") (r := false) (by decide +kernel)
  | dic => exact kit_ty (a := "dict") (r := false) (by decide +kernel)
  | obj C fs => exact ok.kstr
  | ref a => exact ok.elim
  | ty n => exact ok.elim
  | dit kvs => exact ok.elim
theorem kit_t {K : PySem.W.Frag} (ok : d.isOk K) : PySem.W.kitOne K d.tyv (.type "tuple") = some d.isTup := by
  cases d with
  | non => exact kit_ty (a := "NoneType") (r := false) (by decide +kernel)
  | bl => exact kit_ty (a := "bool") (r := false) (by decide +kernel)
  | int => exact kit_ty (a := "int") (r := false) (by decide +kernel)
  | str => exact kit_ty (a := "str") (r := false) (by decide +kernel)
  | tup => exact kit_ty (a := "tuple") (r := true) (by decide +kernel)
  | lst => exact kit_ty (a := "list") (r := false) (by decide +kernel)
  | dic => exact kit_ty (a := "dict") (r := false) (by decide +kernel)
  | obj C fs => exact ok.ktup
  | ref a => exact ok.elim
  | ty n => exact ok.elim
  | dit kvs => exact ok.elim
theorem kit_l {K : PySem.W.Frag} (ok : d.isOk K) : PySem.W.kitOne K d.tyv (.type "list") = some d.isLst := by
  cases d with
  | non => exact kit_ty (a := "NoneType") (r := false) (by decide +kernel)
  | bl => exact kit_ty (a := "bool") (r := false) (by decide +kernel)
  | int => exact kit_ty (a := "int") (r := false) (by decide +kernel)
  | str => exact kit_ty (a := "str") (r := false) (by decide +kernel)
  | tup => exact kit_ty (a := "tuple") (r := false) (by decide +kernel)
  | lst => exact kit_ty (a := "list") (r := true) (by decide +kernel)
  | dic => exact kit_ty (a := "dict") (r := false) (by decide +kernel)
  | obj C fs => exact ok.klst
  | ref a => exact ok.elim
  | ty n => exact ok.elim
  | dit kvs => exact ok.elim
theorem kit_d {K : PySem.W.Frag} (ok : d.isOk K) : PySem.W.kitOne K d.tyv (.type "dict") = some d.isDic := by
  cases d with
  | non => exact kit_ty (a := "NoneType") (r := false) (by decide +kernel)
  | bl => exact kit_ty (a := "bool") (r := false) (by decide +kernel)
  | int => exact kit_ty (a := "int") (r := false) (by decide +kernel)
  | str => exact kit_ty (a := "str") (r := false) (by decide +kernel)
  | tup => exact kit_ty (a := "tuple") (r := false) (by decide +kernel)
  | lst => exact kit_ty (a := "list") (r := false) (by decide +kernel)
  | dic => exact kit_ty (a := "dict") (r := true) (by decide +kernel)
  | obj C fs => exact ok.kdic
  | ref a => exact ok.elim
  | ty n => exact ok.elim
  | dit kvs => exact ok.elim
end
end Vl
end
section
set_option maxRecDepth 100000
namespace Vl
open PySem L2
/-- A has no more in it than B -/
def Less (A B : List Addr) : Prop := ∃ L : List Addr, A.Perm L ∧ L.Sublist B
theorem Less.refl (A : List Addr) : Less A A := ⟨A, List.Perm.refl _, List.Sublist.refl _⟩
theorem Less.of_perm {A B : List Addr} (h : A.Perm B) : Less A B := ⟨B, h, List.Sublist.refl _⟩
theorem Less.of_sub {A B : List Addr} (h : A.Sublist B) : Less A B := ⟨A, List.Perm.refl _, h⟩
theorem Less.nodup {A B : List Addr} (h : Less A B) (nd : B.Nodup) : A.Nodup := by
  obtain ⟨L, p, s⟩ := h
  exact p.nodup_iff.mpr (nd.sublist s)
theorem Less.mem {A B : List Addr} (h : Less A B) {a : Addr} (ha : a ∈ A) : a ∈ B := by
  obtain ⟨L, p, s⟩ := h
  exact s.subset (p.mem_iff.mp ha)
theorem Less.app {A B C D : List Addr} (h : Less A B) (h' : Less C D) : Less (A ++ C) (B ++ D) := by
  obtain ⟨L, p, s⟩ := h
  obtain ⟨L', p', s'⟩ := h'
  exact ⟨L ++ L', p.append p', s.append s'⟩
theorem Less.trans {A B C : List Addr} (h : Less A B) (h' : Less B C) : Less A C := by
  obtain ⟨L, p, s⟩ := h
  obtain ⟨M, q, u⟩ := h'
  obtain ⟨L', p', s'⟩ := List.exists_perm_sublist s q
  exact ⟨L', p.trans p'.symm, s'.trans u⟩
theorem Less.cons {A B : List Addr} (a : Addr) (h : Less A B) : Less (a :: A) (a :: B) := Less.app (Less.refl [a]) h
section
variable {K : PySem.W.Frag} {F H H' : Hp}
theorem OwnL.len {xs : List V} {ts : List T} {A : List Addr} : OwnL K F H xs ts A → xs.length = ts.length
  | .nil => rfl
  | .cons _ q => by simp [OwnL.len q]
theorem OwnL.append {ys : List V} {us : List T} {B : List Addr} : ∀ {xs : List V} {ts : List T} {A : List Addr}, OwnL K F H xs ts A → OwnL K F H ys us B → OwnL K F H (xs ++ ys) (ts ++ us) (A ++ B)
  | _, _, _, .nil, q => q
  | _, _, _, .cons h t, q => by rw [List.append_assoc]; exact .cons h (OwnL.append t q)
theorem OwnL.set {y : V} {u : T} {B : List Addr} (ho : Own K F H y u B) : ∀ {xs : List V} {ts : List T} {A : List Addr} (j : Nat), OwnL K F H xs ts A → ∃ A', OwnL K F H (xs.set j y) (ts.set j u) A' ∧ Less A' (A ++ B)
  | _, _, _, _, .nil => ⟨[], .nil, Less.of_sub (List.nil_sublist _)⟩
  | _, _, _, 0, .cons (A := A) (B := C) h q => ⟨B ++ C, .cons ho q, by
      have h1 : Less (B ++ C) (C ++ B) := Less.of_perm List.perm_append_comm
      exact h1.trans (Less.of_sub (List.Sublist.append (List.sublist_append_right A C) (List.Sublist.refl B)))⟩
  | _, _, _, j + 1, .cons (A := A) h q => by
      obtain ⟨A', o, l⟩ := OwnL.set ho j q
      exact ⟨A ++ A', .cons h o, by rw [List.append_assoc]; exact (Less.refl A).app l⟩
theorem OwnL.erase : ∀ {xs : List V} {ts : List T} {A : List Addr} (j : Nat), OwnL K F H xs ts A → ∃ A', OwnL K F H (xs.eraseIdx j) (ts.eraseIdx j) A' ∧ Less A' A
  | _, _, _, _, .nil => ⟨[], .nil, Less.refl _⟩
  | _, _, _, 0, .cons (A := A) (B := B) h q => ⟨B, q, Less.of_sub (List.sublist_append_right _ _)⟩
  | _, _, _, j + 1, .cons (A := A) h q => by
      obtain ⟨A', o, l⟩ := OwnL.erase j q
      exact ⟨A ++ A', .cons h o, (Less.refl A).app l⟩
theorem OwnL.getI : ∀ {xs : List V} {ts : List T} {A : List Addr} {j : Nat} {t : T}, OwnL K F H xs ts A → ts[j]? = some t → ∃ x B, xs[j]? = some x ∧ Own K F H x t B ∧ B.Sublist A
  | _, _, _, _, _, .nil, e => by simp at e
  | _, _, _, 0, _, .cons (A := A) h q, e => by simp at e; subst e; exact ⟨_, A, rfl, h, List.sublist_append_left _ _⟩
  | _, _, _, j + 1, _, .cons (A := A) h q, e => by
      obtain ⟨x, B, e1, o, s⟩ := OwnL.getI (j := j) q (by simpa using e)
      exact ⟨x, B, by simpa using e1, o, s.trans (List.sublist_append_right _ _)⟩
end
section
variable {K : PySem.W.Frag} {B F0 F F' H H' : Hp} {ρ ρ' st : Rho} {σ σ' vst : St} {v y : V} {d : D} {t t1 r u u' : T} {i : Nat} {ts ts' : List T} {us : List T} {ws : List V}
/-- THE WRITE: the owned object of slot i, the things at the head used up for it; t is what the slot holds, ts its parts -/
theorem Rl.writeG (Sh : HO → List V → Prop) (h : Rl K B F0 (us.map some ++ ρ) (ws.map some ++ σ) H) (hl : ws.length = us.length) (hi : ρ[i]? = some (some t1)) (ht : t1 = t ∨ ∃ a, t1 = .at_ a t) (hna : ∀ a u, t ≠ .at_ a u)
    (hin : ∀ {F H : Hp} {v : V} {A : List Addr}, Own K F H v t A → ∃ a o xs C, v = .ref a ∧ A = a :: C ∧ H a = some o ∧ OwnL K F H xs ts C ∧ Sh o xs) :
    ∃ (a : Addr) (o : HO) (xs : List V), σ[i]? = some (some (.ref a)) ∧ H a = some o ∧ Sh o xs ∧ xs.length = ts.length ∧
      (∀ {j : Nat} {d : D}, ts[j]? = some (.v d) → ∃ w, xs[j]? = some w ∧ Rl K B F0 (some (.v d) :: ρ) (some w :: σ) H) ∧
      ∀ (o' : HO) (xs' : List V) (ts' : List T) (t' : T), (∀ (F H' : Hp) (A' : List Addr), H' a = some o' → OwnL K F H' xs' ts' A' → Own K F H' (.ref a) t' (a :: A')) → (∀ (F H' : Hp) (A B : List Addr), OwnL K F H' xs ts A → OwnL K F H' ws us B → ∃ A', OwnL K F H' xs' ts' A' ∧ Less A' (A ++ B)) → Rl K B F0 (ρ.set i (some (reT t1 t'))) σ (upd H a o') := by
  obtain ⟨F, A, e0, e1, e2, dm, o, nd, fr⟩ := h
  obtain ⟨A1, A2, rfl, o1, o2⟩ := o.split (by simpa using hl)
  obtain ⟨v, B1, B2, B3, e3, rfl, o5, kk, _⟩ := o2.at hi
  have o1' := OwnS.toL o1
  obtain ⟨a, ev, ob, xs, C, hC, ha, hx, hsh, hat⟩ : ∃ a, v = .ref a ∧ ∃ ob xs C, B2 = a :: C ∧ H a = some ob ∧ OwnL K F H xs ts C ∧ Sh ob xs ∧ ∀ a', t1 = .at_ a' t → a' = a := by
    rcases ht with rfl | ⟨a', rfl⟩
    · obtain ⟨a, ob, xs, C, z1, z2, z3, z4, z5⟩ := hin o5
      exact ⟨a, z1, ob, xs, C, z2, z3, z4, z5, fun a' e => absurd e (hna _ _)⟩
    · cases o5 with
      | at_ h1 =>
        obtain ⟨a, ob, xs, C, z1, z2, z3, z4, z5⟩ := hin h1
        cases z1
        exact ⟨_, rfl, ob, xs, C, z2, z3, z4, z5, fun a'' e => by cases e; rfl⟩
  subst ev
  subst hC
  obtain ⟨n1, n2, n3⟩ := List.nodup_append.mp nd
  obtain ⟨n4, n5, n6⟩ := List.nodup_append.mp n2
  obtain ⟨n7, n8, n9⟩ := List.nodup_append.mp n5
  obtain ⟨n10, n11⟩ := List.nodup_cons.mp n7
  refine ⟨a, ob, xs, e3, ha, hsh, hx.len, fun {j d} hj => ?_, fun o' xs' ts' t' hmk hop => ?_⟩
  · obtain ⟨w, Bw, hw, ow, _⟩ := hx.getI hj
    cases ow with
    | v hd => exact ⟨w, hw, F, _, e0, e1, e2, dm, OwnS.cons (A := []) (.v hd) o2, n2, fun b hb => fr b (List.mem_append_right _ hb)⟩
  · have ne : ∀ b, b ∈ A1 ++ (C ++ (B1 ++ B3)) → b ≠ a := fun b hb e => by
      subst e
      simp only [List.mem_append] at hb
      rcases hb with z | z | z | z
      · exact n3 b z b (by simp) rfl
      · exact n10 z
      · exact n6 b z b (by simp) rfl
      · exact n9 b (by simp) b z rfl
    have kp : ∀ b, b ≠ a → ∀ w, H b = some w → upd H a o' b = some w := fun b hb w hw => by rw [upd_ne hb]; exact hw
    obtain ⟨A', oL, ls⟩ := hop F (upd H a o') C A1 (hx.mono (Same.refl _) fun b hb w hw => kp b (ne b (by simp [hb])) w hw) (o1'.mono (Same.refl _) fun b hb w hw => kp b (ne b (by simp [hb])) w hw)
    have o6 : Own K F (upd H a o') (.ref a) (reT t1 t') (a :: A') := by
      rcases ht with rfl | ⟨a', rfl⟩
      · have : reT t1 t' = t' := by
          cases t1 <;> first | rfl | exact absurd rfl (hna _ _)
        rw [this]
        exact hmk F _ A' upd_same oL
      · have ea := hat a' rfl
        subst ea
        exact .at_ (hmk F _ A' upd_same oL)
    have es : σ.set i (some (.ref a)) = σ := set_self e3
    have o7 := kk F (upd H a o') (.ref a) (reT t1 t') (a :: A') (Same.refl _) (fun b hb w hw => kp b (ne b (by
      simp only [List.mem_append] at hb ⊢
      rcases hb with z | z <;> simp [z])) w hw) o6
    rw [es] at o7
    have fa := fr a (by simp)
    have less : Less (B1 ++ ((a :: A') ++ B3)) (A1 ++ (B1 ++ (a :: C ++ B3))) := by
      have l1 : Less (B1 ++ ((a :: A') ++ B3)) (B1 ++ ((a :: (C ++ A1)) ++ B3)) := (Less.refl B1).app ((ls.cons a).app (Less.refl B3))
      refine l1.trans (Less.of_perm ?_)
      have p1 : ((a :: (C ++ A1)) ++ B3).Perm (A1 ++ (a :: C ++ B3)) := by
        have : (a :: (C ++ A1)).Perm (A1 ++ (a :: C)) := by
          have := List.perm_append_comm (l₁ := a :: C) (l₂ := A1)
          simpa using this
        have := this.append_right B3
        simpa [List.append_assoc] using this
      have p2 := p1.append_left B1
      refine p2.trans ?_
      have := List.Perm.append_right (a :: C ++ B3) (List.perm_append_comm (l₁ := B1) (l₂ := A1))
      simpa [List.append_assoc] using this
    have lk : ∀ b, b ≠ a → ∀ w, Lkd H b w → Lkd (upd H a o') b w := fun b hb w ⟨o9, kvs, e9, q⟩ => ⟨o9, kvs, e9, kp b hb _ q⟩
    refine ⟨F, _, e0, fun b w hw => ?_, fun b w hw => ?_, dm, o7, less.nodup nd, fun b hb => fr b (less.mem hb)⟩
    · by_cases hb : b = a
      · rw [hb, fa.1] at hw; cases hw
      · exact (e1 b w hw).imp (kp b hb w) (lk b hb w)
    · by_cases hb : b = a
      · rw [hb, fa.2] at hw; cases hw
      · exact (e2 b w hw).imp (kp b hb w) (fun q => ⟨q.1, lk b hb w q.2⟩)
theorem Rl.write (h : Rl K B F0 (us.map some ++ ρ) (ws.map some ++ σ) H) (hl : ws.length = us.length) (hi : ρ[i]? = some (some t1)) (ht : t1 = .lst ts ∨ ∃ a, t1 = .at_ a (.lst ts)) :
    ∃ (a : Addr) (xs : List V), σ[i]? = some (some (.ref a)) ∧ H a = some (.lst xs) ∧ xs.length = ts.length ∧
      (∀ {j : Nat} {d : D}, ts[j]? = some (.v d) → ∃ w, xs[j]? = some w ∧ Rl K B F0 (some (.v d) :: ρ) (some w :: σ) H) ∧
      ∀ (xs' : List V) (ts' : List T), (∀ (F H' : Hp) (A B : List Addr), OwnL K F H' xs ts A → OwnL K F H' ws us B → ∃ A', OwnL K F H' xs' ts' A' ∧ Less A' (A ++ B)) → Rl K B F0 (ρ.set i (some (reT t1 (.lst ts')))) σ (upd H a (.lst xs')) := by
  obtain ⟨a, o, xs, h1, h2, h3, h4, h5, h6⟩ := h.writeG (fun o xs => o = .lst xs) hl hi ht (fun _ _ e => by cases e) (ts := ts) (fun {F H v A} ow => by
    cases ow with
    | lst z1 z2 => exact ⟨_, _, _, _, rfl, rfl, z1, z2, rfl⟩)
  subst h3
  exact ⟨a, xs, h1, h2, h4, h5, fun xs' ts' hop => h6 (.lst xs') xs' ts' (.lst ts') (fun F H' A' e o => .lst e o) hop⟩
/-- an append to the list at the head of the stack -/
theorem Rl.push1 {a : Addr} (h : Rl K B F0 (some r :: some (.lst ts) :: ρ) (some y :: some (.ref a) :: σ) H) : ∃ xs, H a = some (.lst xs) ∧ xs.length = ts.length ∧ Rl K B F0 (some (.lst (ts ++ [r])) :: ρ) (some (.ref a) :: σ) (upd H a (.lst (xs ++ [y]))) := by
  have h' : Rl K B F0 ([r].map some ++ (some (.lst ts) :: ρ)) ([y].map some ++ (some (.ref a) :: σ)) H := h
  obtain ⟨a', xs, e1, e2, e3, _, k⟩ := h'.write (i := 0) rfl rfl (.inl rfl)
  simp at e1
  subst e1
  refine ⟨xs, e2, e3, ?_⟩
  exact k (xs ++ [y]) (ts ++ [r]) fun F H' A B o1 o2 => ⟨A ++ B, o1.append o2, Less.refl _⟩
end
/-! ### statements that change a list -/
section
variable {X : Cx} {e a b c o : Expr} {es rest : List Expr} {ρ ρ1 ρ2 ρ3 : Rho} {d x y z : D} {r t t1 : T} {ts : List T} {ds : List D} {pos p p2 apos cpos : Pos} {i j k : Nat} {bo bo' : Bool} {f xa : Str} {R : Pr} {xn : Xn} {Z : Outs}
theorem tyV_of {K : PySem.W.Frag} {H : Hp} {a : Addr} {xs : List V} (h : H a = some (.lst xs)) : tyV K "list" (.ref a) H := Or.inl ⟨rfl, _, SqL.of h⟩
/-- xs.append(e), xs the owned list of slot i -/
theorem s_append {pa : Pos} (i : Nat) {t0 : T} (he : Ev X e ρ r ρ1) (hi0 : ρ[i]? = some (some t0)) (ht0 : (∃ us, t0 = .lst us) ∨ ∃ a us, t0 = .at_ a (.lst us)) (hi : ρ1[i]? = some (some t1)) (ht : t1 = .lst ts ∨ ∃ a, t1 = .at_ a (.lst ts)) (hz : ts.length < 100000) (h : Z.nx (ρ1.set i (some (reT t1 (.lst (ts ++ [r])))))) (hN : X.N[i]? = some xa := by rfl) (hv : Vis X.env.scope xa := by first | exact Or.inl rfl | exact Or.inr (Or.inl rfl) | exact Or.inr (Or.inr rfl))
    (hd1 : (xa == ("__debug__" : Str)) = false := by decide) (hcd : (xa == ("__classdict__" : Str)) = false := by decide)
    (hbase : attributeBase (.Name xa pa) "append" X.env (eval (.Name xa pa) X.env) = eval (.Name xa pa) X.env := by rfl)
    (hfew : ((backTo cpos (starEach [e] X.env)).all (fun x => !x.1) && (backToKw cpos (keywordEach [] X.env)).all (fun x => x.1.isSome) && decide (([e] : List Expr).length + ([] : List Keyword).length + (if ([] : List Keyword).isEmpty then 0 else 1) < 30)) = true := by rfl)
    (hs : starEach [e] X.env = (false, eval e X.env) :: starEach [] X.env := by rfl) (hsw : swapsWith (.Call (.Attribute (.Name xa pa) "append" apos) [e] [] cpos) none pos.line X.env = pure false := by rfl) (hline : (apos.endLine == cpos.line) = true := by rfl) :
    S1 X (.Expr (.Call (.Attribute (.Name xa pa) "append" apos) [e] [] cpos) pos) ρ Z :=
  s1_of (ps_expr (pe_bm PySem.F.plainAttrs_list PySem.F.slot_list_append PySem.F.type_list_append mt_append (pe_var hN hv hd1 hcd) (pa_cons (pe_u X e) pa_nil hs) hbase hfew hline hs (by rfl)) hsw) fun B F0 σ H De Wx tk R m => by
    obtain ⟨v, F, A, e1, ow, eF, _⟩ := Rl.slot (st := []) (vst := []) R rfl hi0
    have ty : tyV X.K "list" v H := by
      rcases ht0 with ⟨us, rfl⟩ | ⟨a, us, rfl⟩
      · cases ow with
        | lst h1 _ => exact tyV_of h1
      · cases ow with
        | at_ ow =>
          cases ow with
          | lst h1 _ => exact tyV_of h1
    refine ⟨v, e1, ty, he B F0 [] [] σ H _ rfl R fun u H1 R1 => ?_⟩
    have R1' : Rl X.K B F0 ([r].map some ++ ρ1) ([u].map some ++ σ) H1 := R1
    obtain ⟨a, xs, e2, e3, e4, _, k⟩ := R1'.write (i := i) rfl hi ht
    rw [e1] at e2
    cases e2
    refine ⟨a, xs, u, rfl, rfl, e3, by rw [e4, sizeLine_eq]; omega, m.nx _ σ _ h ?_⟩
    exact k (xs ++ [u]) (ts ++ [r]) fun F H' A B o1 o2 => ⟨A ++ B, o1.append o2, Less.refl _⟩
end
end Vl
end
section
set_option maxRecDepth 100000
namespace Vl
open PySem L2
/-! ### dicts that are walked -/
/-- what frz does to what is known, taken back -/
def Unf (F F' : Hp) : Prop := ∀ a u, F a = some u → F' a = some u ∨ ∃ o kvs, u = .frz o (.dK kvs) ∧ F' a = some (.dK kvs)
mutual
theorem Den.unf {K : PySem.W.Frag} {F F' : Hp} (e : Unf F F') {v : V} {d : D} : Den K F v d → Den K F' v d
  | .non => .non
  | .bl b => .bl b
  | .int i => .int i
  | .str x => .str x
  | .ty n => .ty n
  | .ref a => .ref a
  | .tup h q => .tup (by
      rcases e _ _ h with z | ⟨o, kvs, z, _⟩
      · exact z
      · cases z) (DenL.unf e q)
  | .lst h q => .lst (by
      rcases h with (h | ⟨o, h⟩) | h
      · rcases e _ _ h with z | ⟨o, kvs, z, _⟩
        · exact .inl (.inl z)
        · cases z
      · rcases e _ _ h with z | ⟨o, kvs, z, _⟩
        · exact .inl (.inr ⟨_, z⟩)
        · cases z
      · exact .inr h) (DenL.unf e q)
  | .dic h k q => .dic (by
      rcases h with h | ⟨o, h⟩
      · rcases e _ _ h with z | ⟨o, kvs, z, _⟩
        · exact .inl z
        · cases z
      · rcases e _ _ h with z | ⟨o, kvs, z, z2⟩
        · exact .inr ⟨_, z⟩
        · cases z; exact .inl z2) k (DenL.unf e q)
  | .dit h k q => .dit (by
      rcases h with h | ⟨o, h⟩
      · rcases e _ _ h with z | ⟨o, kvs, z, _⟩
        · exact .inl z
        · cases z
      · rcases e _ _ h with z | ⟨o, kvs, z, z2⟩
        · exact .inr ⟨_, z⟩
        · cases z) k (DenL.unf e q)
  | .obj h k q => .obj (by
      rcases e _ _ h with z | ⟨o, kvs, z, _⟩
      · exact z
      · cases z) k (DenL.unf e q)
theorem DenL.unf {K : PySem.W.Frag} {F F' : Hp} (e : Unf F F') {xs : List V} {ds : List D} : DenL K F xs ds → DenL K F' xs ds
  | .nil => .nil
  | .cons h q => .cons (Den.unf e h) (DenL.unf e q)
end
mutual
theorem Own.monoD {K : PySem.W.Frag} {F F' H H' : Hp} (e : ∀ v d, Den K F v d → Den K F' v d) {v : V} {t : T} {A : List Addr} (k : ∀ a ∈ A, ∀ o, H a = some o → H' a = some o) : Own K F H v t A → Own K F' H' v t A
  | .v h => .v (e _ _ h)
  | .at_ h => .at_ (Own.monoD e k h)
  | .lst h q => .lst (k _ List.mem_cons_self _ h) (OwnL.monoD e (fun a ha => k a (List.mem_cons_of_mem _ ha)) q)
  | .dic h z q => .dic (k _ List.mem_cons_self _ h) z (OwnL.monoD e (fun a ha => k a (List.mem_cons_of_mem _ ha)) q)
  | .dit h z q => .dit (k _ List.mem_cons_self _ h) z (OwnL.monoD e (fun a ha => k a (List.mem_cons_of_mem _ ha)) q)
  | .obj h z q => .obj (k _ List.mem_cons_self _ h) z (OwnL.monoD e (fun a ha => k a (List.mem_cons_of_mem _ ha)) q)
theorem OwnL.monoD {K : PySem.W.Frag} {F F' H H' : Hp} (e : ∀ v d, Den K F v d → Den K F' v d) {xs : List V} {ts : List T} {A : List Addr} (k : ∀ a ∈ A, ∀ o, H a = some o → H' a = some o) : OwnL K F H xs ts A → OwnL K F' H' xs ts A
  | .nil => .nil
  | .cons h q => .cons (Own.monoD e (fun a ha => k a (List.mem_append_left _ ha)) h) (OwnL.monoD e (fun a ha => k a (List.mem_append_right _ ha)) q)
end
theorem OwnS.monoD {K : PySem.W.Frag} {F F' H H' : Hp} {vs : St} {ts : Rho} {A : List Addr} (e : ∀ v d, Den K F v d → Den K F' v d) (h : OwnS K F H vs ts A) : (∀ a ∈ A, ∀ o, H a = some o → H' a = some o) → OwnS K F' H' vs ts A := by
  induction h with
  | nil => intro _; exact .nil
  | skip _ ih => intro k; exact .skip (ih k)
  | cons h _ ih => intro k; exact .cons (h.monoD e fun a ha => k a (List.mem_append_left _ ha)) (ih fun a ha => k a (List.mem_append_right _ ha))
structure Back (K : PySem.W.Frag) (B F0 B1 F1 : Hp) : Prop where
  rl : ∀ ρ' σ' H', Rl K B1 F1 ρ' σ' H' → Rl K B F0 ρ' σ' H'
  ex : ∀ F' ρ' σ' H' x cls d, RlF K B1 F1 F' ρ' σ' H' → XDen K F' x cls d → ∃ F'', RlF K B F0 F'' ρ' σ' H' ∧ XDen K F'' x cls d
structure Turns (K : PySem.W.Frag) (J : It) (B1 F1 : Hp) (n : Nat) (item : Nat → D) : Prop where
  go : ∀ B' F' i ρ' σ' H', Same F1 F' → i < n → Rl K B' F' ρ' σ' H' → J.go i H' ∧ ∀ x H2, J.yld i H' x H2 → Rl K B' F' (some (.v (item i)) :: ρ') (some x :: σ') H2
  stop : ∀ B' F' i ρ' σ' H', Same F1 F' → n ≤ i → Rl K B' F' ρ' σ' H' → J.stop i H'
theorem Back.of {K : PySem.W.Frag} {B F0 F : Hp} {ρ : Rho} {σ : St} {H : Hp} (h : RlF K B F0 F ρ σ H) : Back K B F0 B F := ⟨fun ρ' σ' H' R => h.reL R, fun F' ρ' σ' H' x cls d R hx => ⟨F', h.re R, hx⟩⟩
theorem Back.refl {K : PySem.W.Frag} {B F0 : Hp} : Back K B F0 B F0 := ⟨fun ρ' σ' H' R => R, fun F' ρ' σ' H' x cls d R hx => ⟨F', R, hx⟩⟩
section
variable {K : PySem.W.Frag} {B F0 F F' H H' : Hp} {ρ ρ' st : Rho} {σ σ' vst : St} {v y : V} {d : D}
/-- a dict that is known is locked: the state in which it is so, and the way back -/
theorem RlF.lockd {a : Addr} {kvs : List (Key × V)} {o : Obj} (h : RlF K B F0 F ρ σ H) (hF : F a = some (.dK kvs)) (h0 : H a = some (.dK kvs) ∨ H a = some (.frz o (.dK kvs))) (hH : H' a = some (.frz o (.dK kvs))) (hk : ∀ b, b ≠ a → H' b = H b) :
    ∃ B1 F1, Rl K B1 F1 ρ σ H' ∧ F1 a = some (.frz o (.dK kvs)) ∧ (∀ v d, Den K F v d → Den K F1 v d) ∧ Back K B F0 B1 F1 := by
  classical
  obtain ⟨A, e0, e1, e2, dm, os, nd, fr⟩ := h
  let F1 : Hp := upd F a (.frz o (.dK kvs))
  let B1 : Hp := fun b => if b = a then (B a).map fun _ => .frz o (.dK kvs) else B b
  have b1 : ∀ b, b ≠ a → B1 b = B b := fun b hb => if_neg hb
  have b2 : B1 a = (B a).map fun _ => .frz o (.dK kvs) := if_pos rfl
  have dF : ∀ v d, Den K F v d → Den K F1 v d := fun v d hd => hd.sub fun b u z => by
    by_cases hb : b = a
    · subst hb
      rw [hF] at z; cases z
      exact .inr ⟨o, kvs, rfl, upd_same⟩
    · exact .inl (by show upd F a _ b = _; rw [upd_ne hb]; exact z)
  have na : ∀ b ∈ A, b ≠ a := fun b hb z => by subst z; rw [(fr _ hb).1] at hF; cases hF
  have wy : ∀ {F2 : Hp} {ρ2 : Rho} {σ2 : St} {H2 : Hp}, RlF K B1 F1 F2 ρ2 σ2 H2 → RlF K B F0 (upd F2 a (.dK kvs)) ρ2 σ2 H2 ∧ Unf F2 (upd F2 a (.dK kvs)) := fun {F2 ρ2 σ2 H2} R2 => by
    obtain ⟨A2, f0, f1, f2, dm2, os2, nd2, fr2⟩ := R2
    have hF2 : F2 a = some (.frz o (.dK kvs)) := f0 a _ upd_same
    have hH2 : H2 a = some (.frz o (.dK kvs)) := by
      rcases f1 a _ hF2 with z | ⟨_, _, z, _⟩
      · exact z
      · cases z
    have un : Unf F2 (upd F2 a (.dK kvs)) := fun b u z => by
      by_cases hb : b = a
      · subst hb
        rw [hF2] at z; cases z
        exact .inr ⟨o, kvs, rfl, upd_same⟩
      · exact .inl (by rw [upd_ne hb]; exact z)
    refine ⟨⟨A2, fun b u z => ?_, fun b u z => ?_, fun b u z => ?_, fun b u z => ?_, os2.monoD (fun v d hd => hd.unf un) (fun _ _ _ z => z), nd2, fun b hb => ?_⟩, un⟩
    · by_cases hb : b = a
      · subst hb
        rw [upd_same]
        have := e0 b u z
        rw [hF] at this
        exact this
      · rw [upd_ne hb]
        exact f0 b u (by show upd F a _ b = _; rw [upd_ne hb]; exact e0 b u z)
    · by_cases hb : b = a
      · subst hb
        rw [upd_same] at z; cases z
        exact .inr ⟨o, kvs, rfl, hH2⟩
      · rw [upd_ne hb] at z
        exact f1 b u z
    · by_cases hb : b = a
      · subst hb
        have hu : u = .dK kvs ∨ u = .frz o (.dK kvs) := by
          rcases e2 b u z with q | ⟨q, _⟩
          · rcases h0 with w | w
            · rw [w] at q; cases q; exact .inl rfl
            · rw [w] at q; cases q; exact .inr rfl
          · rw [hF] at q; cases q; exact .inl rfl
        rcases hu with rfl | rfl
        · exact .inr ⟨upd_same, o, kvs, rfl, hH2⟩
        · exact .inl hH2
      · rcases f2 b u (by rw [b1 b hb]; exact z) with q | ⟨q, q2⟩
        · exact .inl q
        · exact .inr ⟨by rw [upd_ne hb]; exact q, q2⟩
    · by_cases hb : b = a
      · subst hb
        exact dm b _ hF
      · rw [upd_ne hb] at z
        rcases dm2 b u z with ⟨u', z'⟩ | z'
        · have : F b = some u' := by
            have w : upd F a (.frz o (.dK kvs)) b = some u' := z'
            rw [upd_ne hb] at w; exact w
          exact dm b u' this
        · rw [b1 b hb] at z'; exact .inr z'
    · have q := fr2 b hb
      have hba : b ≠ a := fun z => by rw [z, hF2] at q; cases q.1
      rw [upd_ne hba]
      exact ⟨q.1, by rw [← b1 b hba]; exact q.2⟩
  refine ⟨B1, F1, ⟨F1, A, Same.refl _, fun b u z => ?_, fun b u z => ?_, fun b u z => .inl ⟨u, z⟩, os.monoD dF fun b hb u z => by rw [hk b (na b hb)]; exact z, nd, fun b hb => ?_⟩, upd_same, dF, ⟨fun ρ' σ' H2 R => ?_, fun F' ρ' σ' H2 x cls d R hx => ?_⟩⟩
  · by_cases hb : b = a
    · subst hb
      have z' : upd F b (.frz o (.dK kvs)) b = some u := z
      rw [upd_same] at z'; cases z'
      exact .inl hH
    · have z' : upd F a (.frz o (.dK kvs)) b = some u := z
      rw [upd_ne hb] at z'
      rcases e1 b u z' with q | ⟨o', kvs', q1, q2⟩
      · exact .inl (by rw [hk b hb]; exact q)
      · exact .inr ⟨o', kvs', q1, by rw [hk b hb]; exact q2⟩
  · by_cases hb : b = a
    · subst hb
      rw [b2] at z
      cases hB : B b with
      | none => rw [hB] at z; cases z
      | some u' => rw [hB] at z; cases z; exact .inl hH
    · rw [b1 b hb] at z
      rcases e2 b u z with q | ⟨q, o', kvs', q1, q2⟩
      · exact .inl (by rw [hk b hb]; exact q)
      · exact .inr ⟨by show upd F a _ b = _; rw [upd_ne hb]; exact q, o', kvs', q1, by rw [hk b hb]; exact q2⟩
  · have q := fr b hb
    have hba := na b hb
    exact ⟨by show upd F a _ b = _; rw [upd_ne hba]; exact q.1, by rw [b1 b hba]; exact q.2⟩
  · obtain ⟨F2, R⟩ := R
    exact ⟨_, (wy R).1⟩
  · obtain ⟨w1, w2⟩ := wy R
    refine ⟨_, w1, hx.1, ?_⟩
    rcases hx.2 with q | ⟨dd, vs, q1, q0, q2, q3, q4⟩
    · exact .inl q
    · refine .inr ⟨dd, vs, q1, q0, ?_, q3, q4.unf w2⟩
      rcases w2 dd _ q2 with z | ⟨_, _, z, _⟩
      · exact z
      · cases z
end
end Vl
end
section
set_option maxRecDepth 100000
namespace Vl
open PySem L2
/-! ### what is walked -/
def Iter (X : Cx) (tg it : Expr) (ρ ρ1 : Rho) (n : Nat) (item : Nat → D) : Prop := ∃ wi : TI, PI X tg it wi ∧ ∀ (B F0 : Hp) (st : Rho) (vst σ : St) (H : Hp) (Rk : It → Hp → Prop), vst.length = st.length → Rl X.K B F0 (st ++ ρ) (vst ++ σ) H →
  (∀ J B1 F1 H1, Rl X.K B1 F1 (st ++ ρ1) (vst ++ σ) H1 → Turns X.K J B1 F1 n item → Back X.K B F0 B1 F1 → Rk J H1) → wi σ H Rk
def kD : Key → D
  | .inl i => .int i
  | .inr x => .str x
theorem kD_den {K : PySem.W.Frag} {F : Hp} (k : Key) : Den K F (kV k) (kD k) := by cases k with
  | inl i => exact .int i
  | inr x => exact .str x
/-- a dict, locked as it comes -/
def LkP (H1 : Hp) (x : V) (Q : V → Hp → Prop) : Prop := ∃ d, x = .ref d ∧ ((∃ o u, H1 d = some (.frz o u) ∧ Q x H1) ∨ ∃ u, H1 d = some u ∧ Mut (some u) ∧ ∀ od, Q x (upd H1 d (.frz od u)))
def tLk (t : TE) : TE := fun σ H Q => t σ H fun x H1 => LkP H1 x Q
theorem pe_lk {X : Cx} {e : Expr} {t : TE} (h : PE X e t) : PE X e (tLk t) := ⟨fun pins s σ H Q I hw => thn (h.run pins s σ H _ I hw) fun v s1 ⟨x, H1, I1, r, d, ex, q⟩ => by
  rcases q with ⟨o, u, hd, q⟩ | ⟨u, hd, mu, q⟩
  · exact ⟨x, H1, I1, r, q⟩
  · obtain ⟨od, I2⟩ := I1.lock hd mu
    exact ⟨x, _, I2, r, q od⟩⟩
section
variable {X : Cx} {tg it e a b c elt : Expr} {es rest : List Expr} {ρ ρ1 ρ2 ρ3 : Rho} {d x y z : D} {r t : T} {ts : List T} {ds : List D} {kvs : List (Key × D)} {pos p p2 apos cpos : Pos} {i k n : Nat} {item : Nat → D} {bo bo' : Bool} {f : Str}
theorem Iter.eq {item' : Nat → D} (h : Iter X tg it ρ ρ1 n item) (e : ∀ i, i < n → item i = item' i) : Iter X tg it ρ ρ1 n item' := by
  obtain ⟨wi, h1, h2⟩ := h
  refine ⟨wi, h1, fun B F0 st vst σ H Rk hl R k => h2 B F0 st vst σ H Rk hl R fun J B1 F1 H1 R1 T Bk => k J B1 F1 H1 R1 ⟨fun B' F' i ρ' σ' H' sm hi R' => ?_, T.stop⟩ Bk⟩
  rw [← e i hi]; exact T.go B' F' i ρ' σ' H' sm hi R'
theorem it_list (he : Ev X it ρ (.v (.lst ds)) ρ1) : Iter X tg it ρ ρ1 ds.length (fun i => ds.getD i .non) := ⟨_, pi_list (pe_u X it), fun B F0 st vst σ H Rk hl R k => he B F0 st vst σ H _ hl R fun v H1 R1 => by
  obtain ⟨F, RF, hd⟩ := R1.elimF
  cases hd with
  | @lst a xs _ hq q =>
    have sq : ∀ {B' F' ρ' σ' H'}, Same F F' → Rl X.K B' F' ρ' σ' H' → SqL X.K H' a xs := fun {B' F' ρ' σ' H'} sm R' => R'.same.sqL (sqL_ex sm hq)
    refine ⟨a, rfl, ⟨xs, sq (Same.refl _) RF.self.rl⟩, k _ B F H1 RF.self.rl ⟨fun B' F' i ρ' σ' H' sm hi R' => ?_, fun B' F' i ρ' σ' H' sm hi R' => ⟨xs, sq sm R', by rw [q.length]; exact hi⟩⟩ (Back.of RF)⟩
    have hlt : i < xs.length := by rw [q.length]; exact hi
    refine ⟨⟨xs, xs[i], sq sm R', List.getElem?_eq_getElem hlt⟩, ?_⟩
    rintro x H2 ⟨rfl, hx⟩
    obtain ⟨d, h1, h2⟩ := q.get' (hx xs (sq sm R'))
    have : ds.getD i .non = d := by rw [List.getD_eq_getElem?_getD, h1]; rfl
    rw [this]
    exact R'.pushF (h2.mono sm)⟩
theorem it_tup (he : Ev X it ρ (.v (.tup ds)) ρ1) : Iter X tg it ρ ρ1 ds.length (fun i => ds.getD i .non) := ⟨_, pi_tup (pe_u X it), fun B F0 st vst σ H Rk hl R k => he B F0 st vst σ H _ hl R fun v H1 R1 => by
  obtain ⟨F, RF, hd⟩ := R1.elimF
  cases hd with
  | @tup a xs _ hq q =>
    have sq : ∀ {B' F' ρ' σ' H'}, Same F F' → Rl X.K B' F' ρ' σ' H' → SqT X.K H' a xs := fun {B' F' ρ' σ' H'} sm R' => SqT.of (R'.same.t (sm a _ hq))
    refine ⟨a, rfl, ⟨xs, sq (Same.refl _) RF.self.rl⟩, k _ B F H1 RF.self.rl ⟨fun B' F' i ρ' σ' H' sm hi R' => ?_, fun B' F' i ρ' σ' H' sm hi R' => ⟨xs, sq sm R', by rw [q.length]; exact hi⟩⟩ (Back.of RF)⟩
    have hlt : i < xs.length := by rw [q.length]; exact hi
    refine ⟨⟨xs, xs[i], sq sm R', List.getElem?_eq_getElem hlt⟩, ?_⟩
    rintro x H2 ⟨rfl, hx⟩
    obtain ⟨d, h1, h2⟩ := q.get' (hx xs (sq sm R'))
    have : ds.getD i .non = d := by rw [List.getD_eq_getElem?_getD, h1]; rfl
    rw [this]
    exact R'.pushF (h2.mono sm)⟩
theorem turns_range {K : PySem.W.Frag} {B F : Hp} (lo : Int) (n : Nat) : Turns K (Itr lo n) B F n (fun i => .int (lo + (i : Int))) := ⟨fun B' F' i ρ' σ' H' sm hi R' => ⟨hi, fun x H2 ⟨h1, h2⟩ => by subst h1; subst h2; exact R'.pushS fun _ => .int _⟩, fun B' F' i ρ' σ' H' sm hi R' => hi⟩
theorem it_range1 {nn : Int} (ha : EvA X [a] ρ [.v (.int nn)] ρ1) (hz : nn ≤ 2 ^ 40) (hz2 : -(2 ^ 40) ≤ nn) (hm : X.mg "range" = none) (hg : Gl X "range" := by rfl) (he : starEach [a] X.env = [(false, eval a X.env)] := by rfl) :
    Iter X tg (.Call (.Name "range" p) [a] [] pos) ρ ρ1 nn.toNat (fun i => .int (i : Int)) := Iter.eq (item := fun i => .int (0 + (i : Int))) ⟨_, pi_range1 hg hm (pa_u X [a]) he, fun B F0 st vst σ H Rk hl R k => ha B F0 st vst σ H _ hl R fun vs H1 hl1 R1 => by
  match vs, hl1 with
  | [v], _ =>
    have R2 : Rl X.K B F0 (some (.v (.int nn)) :: (st ++ ρ1)) (some v :: (vst ++ σ)) H1 := R1
    exact ⟨nn, by rw [R2.headI], by omega, by omega, k _ B F0 H1 R2.drop (turns_range 0 _) Back.refl⟩⟩ (fun i _ => by rw [Int.zero_add])
/-- what a dict that is locked gives -/
theorem lock_any {K : PySem.W.Frag} {B F0 H1 : Hp} {ρ : Rho} {σ : St} {v : V} {Q : V → Hp → Prop} (R1 : Rl K B F0 (some (.v (.dic kvs)) :: ρ) (some v :: σ) H1)
    (k : ∀ d o ks B1 F1 H2, v = .ref d → Rl K B1 F1 ρ σ H2 → F1 d = some (.frz o (.dK ks)) → ks.map (·.1) = kvs.map (·.1) → DenL K F1 (ks.map (·.2)) (kvs.map (·.2)) → Back K B F0 B1 F1 → Q v H2) :
    LkP H1 v Q := by
  obtain ⟨F, RF, hd⟩ := R1.elimF
  cases hd with
  | @dic a ks _ hq hk q =>
    refine ⟨a, rfl, ?_⟩
    have dm : ∀ {F1 : Hp}, (∀ v d, Den K F v d → Den K F1 v d) → DenL K F1 (ks.map (·.2)) (kvs.map (·.2)) := fun {F1} h => by
      have : ∀ {xs : List V} {ds : List D}, DenL K F xs ds → DenL K F1 xs ds := fun {xs ds} g => by
        induction xs generalizing ds with
        | nil => cases g; exact .nil
        | cons x xs ih => cases g with | cons g1 g2 => exact .cons (h _ _ g1) (ih g2)
      exact this q
    rcases hq with hF | ⟨o, hF⟩
    · have hsub := (id RF : RlF K B F0 F ρ σ H1)
      obtain ⟨A, e0, e1, _⟩ := hsub
      rcases e1 a _ hF with z | ⟨o, kvs', z1, z2⟩
      · refine .inr ⟨_, z, trivial, fun od => ?_⟩
        obtain ⟨B1, F1, R2, h1, h2, bk⟩ := RF.lockd (o := od) (H' := upd H1 a (.frz od (.dK ks))) hF (.inl z) upd_same (fun b hb => upd_ne hb)
        exact k a od ks B1 F1 _ rfl R2 h1 hk (dm h2) bk
      · cases z1
        obtain ⟨B1, F1, R2, h1, h2, bk⟩ := RF.lockd (o := o) (H' := H1) hF (.inr z2) z2 (fun b hb => rfl)
        exact .inl ⟨o, _, z2, k a o ks B1 F1 _ rfl R2 h1 hk (dm h2) bk⟩
    · have hH : H1 a = some (.frz o (.dK ks)) := by
        obtain ⟨A, e0, e1, _⟩ := id RF
        rcases e1 a _ hF with z | ⟨_, _, z, _⟩
        · exact z
        · cases z
      exact .inl ⟨o, _, hH, k a o ks B F H1 rfl RF.self.rl hF hk q (Back.of RF)⟩
theorem Rl.frzAt {K : PySem.W.Frag} {B F0 H : Hp} {ρ : Rho} {σ : St} {a : Addr} {o : Obj} {ks : List (Key × V)} (R : Rl K B F0 ρ σ H) (h : F0 a = some (.frz o (.dK ks))) : H a = some (.frz o (.dK ks)) := by
  rcases R.same a _ h with z | ⟨_, _, z, _⟩
  · exact z
  · cases z
theorem keys_get {ks : List (Key × V)} {kvs : List (Key × D)} (hk : ks.map (·.1) = kvs.map (·.1)) {i : Nat} {k : Key} {v : V} (h : ks[i]? = some (k, v)) : ∃ d, kvs[i]? = some (k, d) := by
  have h1 : (ks.map (·.1))[i]? = some k := by rw [List.getElem?_map, h]; rfl
  rw [hk, List.getElem?_map] at h1
  cases hx : kvs[i]? with
  | none => rw [hx] at h1; simp at h1
  | some p => rw [hx] at h1; simp at h1; subst h1; exact ⟨p.2, rfl⟩
theorem it_values (he : Ev X e ρ (.v (.dic kvs)) ρ1) (hbase : attributeBase e "values" X.env (eval e X.env) = eval e X.env := by rfl) (hline : (apos.endLine == cpos.line) = true := by rfl) :
    Iter X tg (.Call (.Attribute e "values" apos) [] [] cpos) ρ ρ1 kvs.length (fun i => (kvs.map (·.2)).getD i .non) := ⟨_, pi_values (pe_lk (pe_u X e)) hbase hline, fun B F0 st vst σ H Rk hl R k => he B F0 st vst σ H _ hl R fun v H1 R1 =>
  by
    refine lock_any R1 ?_
    intro d o ks B1 F1 H2 ev R2 h1 hk q bk
    have hlen : ks.length = kvs.length := by have := congrArg List.length hk; simpa using this
    refine ⟨d, o, ks, ev, R2.frzAt h1, k _ B1 F1 H2 R2 ⟨fun B' F' i ρ' σ' H' sm hi R' => ⟨⟨R'.frzAt (sm _ _ h1), by omega⟩, ?_⟩, fun B' F' i ρ' σ' H' sm hi R' => ⟨R'.frzAt (sm _ _ h1), by omega⟩⟩ bk⟩
    rintro x H3 ⟨rfl, key, hx⟩
    have hx2 : (ks.map (·.2))[i]? = some x := by rw [List.getElem?_map, hx]; rfl
    obtain ⟨d', g1, g2⟩ := q.get' hx2
    have : (kvs.map (·.2)).getD i .non = d' := by rw [List.getD_eq_getElem?_getD, g1]; rfl
    rw [this]
    exact R'.pushF (g2.mono sm)⟩
end
section
variable {X : Cx} {tg it e a b c elt : Expr} {es rest : List Expr} {ρ ρ1 ρ2 ρ3 : Rho} {d x y z : D} {r t : T} {ts : List T} {ds : List D} {pos p p2 apos cpos : Pos} {i k n : Nat} {item : Nat → D} {bo bo' : Bool} {f : Str} {Z : Outs} {body : List Stmt}
/-- for target in ..: I i ahead of the turn i -/
theorem s_for (I : Nat → Rho → Prop) (g : Gd X) (hit : Iter X tg it ρ ρ1 n item) (h0 : I 0 ρ1) (hs : ∀ i ρ', i < n → I i ρ' → ∃ ρ2, Tg X tg (item i) ρ' ρ2 ∧ S X body ρ2 { Z with nx := I (i + 1), ct := I (i + 1), bk := Z.nx })
    (hd : ∀ ρ', I n ρ' → Z.nx ρ') (hfs : ∀ x, foldedSetIterable it X.env x = pure x := by intro _; rfl) : S1 X (.For tg it body [] pos) ρ Z := by
  obtain ⟨wi, hpi, hw⟩ := hit
  refine s1_of (ps_for g.own g.calm hpi (pg_u X tg) (pss_u X body) hfs) fun B F0 σ H De Wx tk R m => hw B F0 [] [] σ H _ rfl R fun J B1 F1 H1 R1 Tn bk => ?_
  refine ⟨fun i k σ' H' => k = n - i ∧ i ≤ n ∧ ∃ ρ', I i ρ' ∧ Rl X.K B1 F1 ρ' σ' H', ⟨_, rfl, Nat.zero_le _, ρ1, h0, R1⟩, ?_⟩
  rintro i k σ' H' ⟨rfl, hle, ρ', hI, R'⟩
  by_cases hlt : i < n
  · obtain ⟨g1, g2⟩ := Tn.go B1 F1 i ρ' σ' H' (Same.refl _) hlt R'
    refine .inr ⟨g1, fun σ2 H2 => ∃ ρ2, I (i + 1) ρ2 ∧ Rl X.K B1 F1 ρ2 σ2 H2, fun σ2 H2 h => ⟨n - (i + 1), by omega, rfl, by omega, h⟩, fun w H2 hy => ?_⟩
    obtain ⟨ρ2, ht, hb⟩ := hs i ρ' hlt hI
    exact ht B1 F1 σ' H2 w _ (g2 w H2 hy) fun σ2 H3 R2 => hb B1 F1 σ2 H3 _ Wx tk R2 ⟨fun ρ σ H h R => ⟨ρ, h, R⟩, fun r ρ v σ H h R => m.rt r ρ v σ H h (bk.rl _ _ _ R), fun ρ σ H h R => m.nx ρ σ H h (bk.rl _ _ _ R), fun ρ σ H h R => ⟨ρ, h, R⟩, fun x ρ cls d F' σ H h R hx => by
      obtain ⟨F2, R2, hx2⟩ := bk.ex F' _ _ _ x cls d R hx
      exact m.ex x ρ cls d F2 σ H h R2 hx2⟩
  · have e : i = n := by omega
    subst e
    exact .inl ⟨Tn.stop B1 F1 i ρ' σ' H' (Same.refl _) (Nat.le_refl _) R', m.nx ρ' σ' H' (hd ρ' hI) (bk.rl _ _ _ R')⟩
end
/-! ### comprehensions -/
def wipeR (ρ : Rho) : List Nat → Rho
  | [] => ρ
  | v :: vs => (wipeR ρ vs).set v none
def Clean (ρ : Rho) (vs : List Nat) : Prop := ∀ j ∈ vs, ∀ t, ρ[j]? ≠ some (some t)
theorem wipeR_get {ρ : Rho} : ∀ {vs : List Nat} {j : Nat} {t : T}, (wipeR ρ vs)[j]? = some (some t) → ρ[j]? = some (some t) ∧ j ∉ vs
  | [], j, t, h => ⟨h, by simp⟩
  | v :: vs, j, t, h => by
    unfold wipeR at h
    by_cases e : j = v
    · subst e
      by_cases hl : j < (wipeR ρ vs).length
      · rw [List.getElem?_set_self hl] at h; cases h
      · rw [List.getElem?_eq_none_iff.mpr (by rw [List.length_set]; exact Nat.not_lt.mp hl)] at h; cases h
    · rw [List.getElem?_set_ne (Ne.symm e)] at h
      obtain ⟨h1, h2⟩ := wipeR_get h
      exact ⟨h1, by simp [e, h2]⟩
theorem wipeR_clean (ρ : Rho) (vs : List Nat) : Clean (wipeR ρ vs) vs := fun j hj t h => (wipeR_get h).2 hj
section
variable {K : PySem.W.Frag} {B F0 F H : Hp} {ρ st : Rho} {σ σ' vst : St}
theorem OwnS.alter {ts : Rho} {vs : St} {A : List Addr} (h : OwnS K F H vs ts A) : ∀ {vs' : St}, vs'.length = vs.length → (∀ (j : Nat) (t : T), ts[j]? = some (some t) → vs'[j]? = vs[j]?) → OwnS K F H vs' ts A := by
  induction h with
  | nil =>
    intro vs' hl _
    cases vs' with
    | nil => exact .nil
    | cons _ _ => simp at hl
  | @skip x vs ts A _ ih =>
    intro vs' hl hk
    cases vs' with
    | nil => simp at hl
    | cons y vs' => exact .skip (ih (by simpa using hl) fun j t e => by simpa using hk (j + 1) t (by simpa using e))
  | @cons v t vs ts A A' h1 _ ih =>
    intro vs' hl hk
    cases vs' with
    | nil => simp at hl
    | cons y vs' =>
      have e0 := hk 0 t rfl
      simp at e0
      subst e0
      exact .cons h1 (ih (by simpa using hl) fun j t e => by simpa using hk (j + 1) t (by simpa using e))
theorem Rl.alter (h : Rl K B F0 (st ++ ρ) (vst ++ σ) H) (hl : vst.length = st.length) (hs : σ'.length = σ.length) (hk : ∀ (j : Nat) (t : T), (ρ : List (Option T))[j]? = some (some t) → σ'[j]? = σ[j]?) : Rl K B F0 (st ++ ρ) (vst ++ σ') H := by
  obtain ⟨F, A, e0, e1, e2, dm, o, nd, fr⟩ := h
  obtain ⟨A1, A2, rfl, o1, o2⟩ := o.split hl
  exact ⟨F, _, e0, e1, e2, dm, o1.append (o2.alter hs hk), nd, fr⟩
theorem wipe_get {vs : List Nat} {j : Nat} (h : j ∉ vs) : (wipe σ vs)[j]? = σ[j]? := by
  induction vs with
  | nil => rfl
  | cons v vs ih =>
    unfold wipe
    rw [List.getElem?_set_ne (fun e => h (by simp [e])), ih (fun e => h (by simp [e]))]
theorem Rl.wipeOn {vs : List Nat} (h : Rl K B F0 (st ++ ρ) (vst ++ σ) H) (hl : vst.length = st.length) (hc : Clean ρ vs) : Rl K B F0 (st ++ ρ) (vst ++ wipe σ vs) H :=
  h.alter hl (wipe_length σ vs) fun j t e => wipe_get fun hj => hc j hj t e
theorem Rl.wipeOff {vs : List Nat} (h : Rl K B F0 (st ++ ρ) (vst ++ wipe σ vs) H) (hl : vst.length = st.length) (hc : Clean ρ vs) : Rl K B F0 (st ++ ρ) (vst ++ σ) H :=
  h.alter hl (wipe_length σ vs).symm fun j t e => (wipe_get fun hj => hc j hj t e).symm
theorem Rl.forget (j : Nat) (h : Rl K B F0 (st ++ ρ) (vst ++ σ) H) (hl : vst.length = st.length) : Rl K B F0 (st ++ ρ.set j none) (vst ++ σ.set j none) H := by
  obtain ⟨F, A, e0, e1, e2, dm, o, nd, fr⟩ := h
  obtain ⟨A1, A2, rfl, o1, o2⟩ := o.split hl
  by_cases hj : j < ρ.length
  · cases hx : ρ[j]? with
    | none => exact absurd hj (Nat.not_lt.mpr (List.getElem?_eq_none_iff.mp hx))
    | some x =>
      cases x with
      | none =>
        have e : ρ.set j none = ρ := set_self hx
        rw [e]
        exact ⟨F, _, e0, e1, e2, dm, o1.append (o2.alter (by simp) fun i t ei => by
          have : i ≠ j := fun z => by subst z; rw [hx] at ei; cases ei
          rw [List.getElem?_set_ne (Ne.symm this)]), nd, fr⟩
      | some t =>
        obtain ⟨v, B1, B2, B3, _, rfl, _, _, k⟩ := o2.at hx
        have sub : List.Sublist (A1 ++ (B1 ++ B3)) (A1 ++ (B1 ++ (B2 ++ B3))) := List.Sublist.append (List.Sublist.refl _) (List.Sublist.append (List.Sublist.refl _) (List.sublist_append_right _ _))
        exact ⟨F, _, e0, e1, e2, dm, o1.append (k none), nd.sublist sub, fun a ha => fr a (sub.subset ha)⟩
  · have h1 : ρ.set j none = ρ := List.set_eq_of_length_le (Nat.not_lt.mp hj)
    have h2 : σ.set j none = σ := List.set_eq_of_length_le (by rw [o2.len]; exact Nat.not_lt.mp hj)
    rw [h1, h2]
    exact ⟨F, _, e0, e1, e2, dm, o1.append o2, nd, fr⟩
theorem Rl.forgetN (h : Rl K B F0 (st ++ ρ) (vst ++ σ) H) (hl : vst.length = st.length) : ∀ vs : List Nat, Rl K B F0 (st ++ wipeR ρ vs) (vst ++ wipe σ vs) H
  | [] => h
  | v :: vs => Rl.forget v (Rl.forgetN h hl vs) hl
theorem wipe_comm {vs : List Nat} : ∀ {σ : St} {j : Nat} {x : Option V}, j ∈ vs → wipe (σ.set j x) vs = wipe σ vs := by
  induction vs with
  | nil => intro σ j x h; cases h
  | cons v vs ih =>
    intro σ j x h
    unfold wipe
    by_cases hj : j ∈ vs
    · rw [ih hj]
    · have e : j = v := by simpa [hj] using h
      subst e
      have : ∀ {us : List Nat}, j ∉ us → wipe (σ.set j x) us = (wipe σ us).set j x := by
        intro us
        induction us with
        | nil => intro _; rfl
        | cons u us ih2 =>
          intro hu
          unfold wipe
          rw [ih2 (fun z => hu (by simp [z])), List.set_comm _ _ (fun z => hu (by simp [z]))]
      rw [this hj, List.set_set]
end
/-- a target in a comprehension's block -/
def TgK (X : Cx) (vs : List Nat) (tg : Expr) (d : D) (ρ ρ' : Rho) : Prop := ∀ (B F0 : Hp) (st : Rho) (vst σ : St) (H : Hp) (v : V) (Q : St → Hp → Prop), vst.length = st.length → Rl X.K B F0 (some (.v d) :: (st ++ ρ)) (some v :: (vst ++ σ)) H →
  (∀ σ' H', Rl X.K B F0 (st ++ ρ') (vst ++ σ') H' → wipe σ' vs = wipe σ vs → Q σ' H') → ∃ g, PG X tg g ∧ g v σ H Q
def TgKs (X : Cx) (vs : List Nat) (tgs : List Expr) (ds : List D) (ρ ρ' : Rho) : Prop := ∀ (B F0 : Hp) (st : Rho) (vst σ : St) (H : Hp) (us : List V) (Q : St → Hp → Prop), vst.length = st.length → Rl X.K B F0 (st ++ ρ) (vst ++ σ) H → DenL X.K F0 us ds →
  (∀ σ' H', Rl X.K B F0 (st ++ ρ') (vst ++ σ') H' → wipe σ' vs = wipe σ vs → Q σ' H') → ∃ g, PGs X tgs g ∧ g us σ H Q
section
variable {X : Cx} {tg : Expr} {tgs : List Expr} {vs : List Nat} {d : D} {ds : List D} {ρ ρ1 ρ2 : Rho} {pos : Pos}
theorem Rl.setSt {K : PySem.W.Frag} {B F0 H : Hp} {ρ st : Rho} {σ vst : St} {t : T} {v : V} (j : Nat) (h : Rl K B F0 (some t :: (st ++ ρ)) (some v :: (vst ++ σ)) H) (hl : vst.length = st.length) : Rl K B F0 (st ++ ρ.set j (some t)) (vst ++ σ.set j (some v)) H := by
  have h1 := h.setS (i := st.length + j)
  rw [List.set_append_right _ _ (by omega), List.set_append_right _ _ (by omega)] at h1
  have e1 : st.length + j - st.length = j := by omega
  have e2 : st.length + j - vst.length = j := by omega
  rw [e1, e2] at h1
  exact h1
theorem tgk_name {x : Str} (j : Nat) (hN : X.N.Nodup) (hj : j ∈ vs := by simp) (hi : X.N[j]? = some x := by rfl) (hx : Loc X.env.scope x := by first | exact Or.inl rfl | exact Or.inr rfl) (hf : X.fn x = true ∨ X.env.scope.names.lookup x = some .local := by first | exact .inl rfl | exact .inr rfl) :
    TgK X vs (.Name x pos) d ρ (ρ.set j (some (.v d))) := fun B F0 st vst σ H v Q hl R k => ⟨_, pg_name hN hi hx hf, k _ H (R.setSt j hl) (wipe_comm hj)⟩
theorem tgks_nil : TgKs X vs [] [] ρ ρ := fun B F0 st vst σ H us Q hl R hd k => ⟨_, pgs_nil, by cases hd; rfl, k σ H R rfl⟩
theorem tgks_cons (h1 : TgK X vs tg d ρ ρ1) (h2 : TgKs X vs tgs ds ρ1 ρ2) (hs : (assignEach (tg :: tgs) X.env).map (·.2) = assign tg X.env :: (assignEach tgs X.env).map (·.2) := by rfl) : TgKs X vs (tg :: tgs) (d :: ds) ρ ρ2 := fun B F0 st vst σ H us Q hl R hd k => by
  cases hd with
  | @cons v _ vs' _ q1 q2 =>
    exact ⟨_, pgs_cons (pg_u X tg) (pgs_u X tgs) hs, v, vs', rfl, h1 B F0 st vst σ H v _ hl (R.pushF q1) fun σ1 H1 R1 w1 => h2 B F0 st vst σ1 H1 vs' Q hl R1 q2 fun σ2 H2 R2 w2 => k σ2 H2 R2 (w2.trans w1)⟩
theorem tgk_tup {kx : Nat} (hc : X.calm = true) (h : TgKs X vs tgs ds ρ ρ1) (hl : ds.length = tgs.length) (hn : (assignEach tgs X.env).length = tgs.length := by rfl) (hst : (assignEach tgs X.env).findIdx? (·.1) = none := by rfl) : TgK X vs (.Tuple tgs kx pos) (.tup ds) ρ ρ1 := fun B F0 st vst σ H v Q hl2 R k => by
  obtain ⟨F, R1, hd⟩ := R.elimF
  cases hd with
  | tup hq q =>
    exact ⟨_, pg_tup hc (pgs_u X tgs) hn hst, _, _, rfl, SqT.of (R1.self.rl.same.t hq), by rw [q.length, hl], h B F st vst σ H _ Q hl2 R1.self.rl q fun σ' H' R' w => k σ' H' (R1.reL R') w⟩
end
/-- the tests of a comprehension -/
def TsV (X : Cx) (ifs : List Expr) (ρ : Rho) (b : Bool) (ρ' : Rho) : Prop := ∀ (B F0 : Hp) (st : Rho) (vst σ : St) (H : Hp) (Q : Bool → Hp → Prop), vst.length = st.length → Rl X.K B F0 (st ++ ρ) (vst ++ σ) H → (∀ H', Rl X.K B F0 (st ++ ρ') (vst ++ σ) H' → Q b H') → ∃ t, PTs X ifs t ∧ t σ H Q
theorem ts_nil {X : Cx} {ρ : Rho} : TsV X [] ρ true ρ := fun B F0 st vst σ H Q hl R k => ⟨_, pts_nil, k H R⟩
section
variable {X : Cx} {tg it elt : Expr} {ifs : List Expr} {scope : Scope} {own : List (Str × Nat)} {ρ ρ1 ρF : Rho} {n : Nat} {item : Nat → D} {pos : Pos} {accF : List T}
abbrev gBk (X : Cx) (scope : Scope) (tg : Expr) : TG := fun v σ H Q => ∀ s H' C cl fp, tG (X.blk s H' scope (compEnvC scope cl C X.env) fp) tg v σ H Q
abbrev tBk (X : Cx) (scope : Scope) (ifs : List Expr) : TT := fun σ H Q => ∀ s H' C cl fp, ∃ t, PTs (X.blk s H' scope (compEnvC scope cl C X.env) fp) ifs t ∧ t σ H Q
abbrev eBk (X : Cx) (scope : Scope) (elt : Expr) : TE := fun σ H Q => ∀ s H' C cl fp, tE (X.blk s H' scope (compEnvC scope cl C X.env) fp) elt σ H Q
theorem pg_bk (X : Cx) (scope : Scope) (tg : Expr) : ∀ (s : Shared) (H : Hp) (C : Addr) (cl : List (Str × Addr)) (fp : List Addr), PG (X.blk s H scope (compEnvC scope cl C X.env) fp) tg (gBk X scope tg) := fun s H' C cl fp => ⟨fun pins s σ H v u Q I r h => (pg_u _ tg).run pins s σ H v u Q I r (h _ _ _ _ _)⟩
theorem pts_bk (X : Cx) (scope : Scope) (ifs : List Expr) : ∀ (s : Shared) (H : Hp) (C : Addr) (cl : List (Str × Addr)) (fp : List Addr), PTs (X.blk s H scope (compEnvC scope cl C X.env) fp) ifs (tBk X scope ifs) := fun s H' C cl fp => ⟨fun pins s σ H Q I h => let ⟨t, p, q⟩ := h _ _ _ _ _; p.run pins s σ H Q I q⟩
theorem pe_bk (X : Cx) (scope : Scope) (elt : Expr) : ∀ (s : Shared) (H : Hp) (C : Addr) (cl : List (Str × Addr)) (fp : List Addr), PE (X.blk s H scope (compEnvC scope cl C X.env) fp) elt (eBk X scope elt) := fun s H' C cl fp => ⟨fun pins s σ H Q I h => (pe_u _ elt).run pins s σ H Q I (h _ _ _ _ _)⟩
/-- what a block's turns have to keep -/
abbrev LcTurn (X : Cx) (scope : Scope) (tg elt : Expr) (ifs : List Expr) (own : List (Str × Nat)) (n : Nat) (item : Nat → D) (I : Nat → Rho → List T → Prop) : Prop :=
  ∀ i ρ' acc, i < n → I i ρ' acc → ∃ ρ2 bo ρ3, (∀ s H C cl fp, TgK (X.blk s H scope (compEnvC scope cl C X.env) fp) (own.map Prod.snd) tg (item i) ρ' ρ2) ∧ (∀ s H C cl fp, TsV (X.blk s H scope (compEnvC scope cl C X.env) fp) ifs ρ2 bo ρ3) ∧
      (bo = true → ∃ r ρ4, (∀ s H C cl fp, Ev (X.blk s H scope (compEnvC scope cl C X.env) fp) elt ρ3 r ρ4) ∧ I (i + 1) (wipeR ρ4 (own.map Prod.snd)) (acc ++ [r])) ∧ (bo = false → I (i + 1) (wipeR ρ3 (own.map Prod.snd)) acc)
theorem lc_run {wi : TI} (own : List (Str × Nat)) (I : Nat → Rho → List T → Prop) (hw : ∀ (B F0 : Hp) (st : Rho) (vst σ : St) (H : Hp) (Rk : It → Hp → Prop), vst.length = st.length → Rl X.K B F0 (st ++ ρ) (vst ++ σ) H →
      (∀ J B1 F1 H1, Rl X.K B1 F1 (st ++ ρ1) (vst ++ σ) H1 → Turns X.K J B1 F1 n item → Back X.K B F0 B1 F1 → Rk J H1) → wi σ H Rk)
    (hc : Clean ρ1 (own.map Prod.snd)) (h0 : I 0 ρ1 []) (hs : LcTurn X scope tg elt ifs own n item I)
    (hd : ∀ ρ' acc, I n ρ' acc → acc = accF ∧ ρ' = ρF) (hz : n ≤ 100000) (B F0 : Hp) (st : Rho) (vst σ : St) (H : Hp) (Q : VK) (hl : vst.length = st.length) (R : Rl X.K B F0 (st ++ ρ) (vst ++ σ) H)
    (k : ∀ v H', Rl X.K B F0 (some (.lst accF) :: (st ++ ρF)) (some v :: (vst ++ σ)) H' → Q v H') : tLc wi (gBk X scope tg) (tBk X scope ifs) (eBk X scope elt) (own.map Prod.snd) σ H Q := by
  refine hw B F0 st vst σ H _ hl R fun J B1 F1 H1 R1 Tn bk Dl hD => ?_
  have hls : (some (V.ref Dl) :: vst).length = (some (T.lst []) :: st).length := by simp [hl]
  have Rst : Rl X.K B1 F1 (some (T.lst []) :: (st ++ ρ1)) (some (V.ref Dl) :: (vst ++ wipe σ (own.map Prod.snd))) (upd H1 Dl (.lst [])) := (Rl.wipeOn (vs := own.map Prod.snd) R1 hl hc).newLst (ts := []) (vs := []) rfl hD
  refine ⟨fun i m H' => m = n - i ∧ i ≤ n ∧ ∃ ρ' acc, I i ρ' acc ∧ acc.length ≤ i ∧ Clean ρ' (own.map Prod.snd) ∧ Rl X.K B1 F1 (some (T.lst acc) :: (st ++ ρ')) (some (V.ref Dl) :: (vst ++ wipe σ (own.map Prod.snd))) H', ⟨n, by omega, Nat.zero_le _, ρ1, [], h0, Nat.le_refl _, hc, Rst⟩, ?_⟩
  rintro i m H' ⟨rfl, hle, ρ', acc, hI, hla, hcl, R'⟩
  have hls' : (some (V.ref Dl) :: vst).length = (some (T.lst acc) :: st).length := by simp [hl]
  by_cases hlt : i < n
  · obtain ⟨g1, g2⟩ := Tn.go B1 F1 i _ _ H' (Same.refl _) hlt R'
    refine .inr ⟨g1, fun H2 => ∃ ρ' acc, I (i + 1) ρ' acc ∧ acc.length ≤ i + 1 ∧ Clean ρ' (own.map Prod.snd) ∧ Rl X.K B1 F1 (some (T.lst acc) :: (st ++ ρ')) (some (V.ref Dl) :: (vst ++ wipe σ (own.map Prod.snd))) H2, fun H2 h => ⟨n - (i + 1), by omega, rfl, by omega, h⟩, fun w H2 hy => ?_⟩
    obtain ⟨ρ2, bo, ρ3, ht, hts, hy1, hy0⟩ := hs i ρ' acc hlt hI
    have Rw := g2 w H2 hy
    -- the target
    intro s' Hs C cl fp
    refine ht s' Hs C cl fp B1 F1 (some (T.lst acc) :: st) (some (V.ref Dl) :: vst) (wipe σ (own.map Prod.snd)) H2 w _ hls' Rw fun σ2 H3 R2 wq => ?_
    have wq' : wipe σ2 (own.map Prod.snd) = wipe σ (own.map Prod.snd) := by
      rw [wq]
      have : ∀ (vs us : List Nat), (∀ x ∈ us, x ∈ vs) → wipe (wipe σ us) vs = wipe σ vs := by
        intro vs us
        induction us with
        | nil => intro _; rfl
        | cons u us ih =>
          intro h
          show wipe ((wipe σ us).set u none) vs = _
          rw [wipe_comm (h u (by simp)), ih fun x hx => h x (by simp [hx])]
      exact this _ _ fun x hx => hx
    refine ⟨wq', ?_⟩
    intro s2 Hs2 C2 cl2 fp2
    refine hts s2 Hs2 C2 cl2 fp2 B1 F1 (some (T.lst acc) :: st) (some (V.ref Dl) :: vst) σ2 H3 _ hls' R2 fun H4 R3 => ?_
    cases bo with
    | true =>
      obtain ⟨r, ρ4, hev, hI'⟩ := hy1 rfl
      refine iteT ?_
      intro s3 Hs3 C3 cl3 fp3
      refine hev s3 Hs3 C3 cl3 fp3 B1 F1 (some (T.lst acc) :: st) (some (V.ref Dl) :: vst) σ2 H4 _ hls' R3 fun y H5 R4 => ?_
      obtain ⟨xs, e1, e2, R5⟩ := Rl.push1 R4
      refine ⟨xs, e1, by rw [e2, sizeLine_eq]; omega, _, acc ++ [r], hI', by simp; omega, wipeR_clean _ _, ?_⟩
      have R6 := Rl.forgetN (st := some (T.lst (acc ++ [r])) :: st) (vst := some (V.ref Dl) :: vst) R5 (by simp [hl]) (own.map Prod.snd)
      rw [wq'] at R6
      exact R6
    | false =>
      refine iteF ⟨_, acc, hy0 rfl, by omega, wipeR_clean _ _, ?_⟩
      have R6 := Rl.forgetN (st := some (T.lst acc) :: st) (vst := some (V.ref Dl) :: vst) R3 hls' (own.map Prod.snd)
      rw [wq'] at R6
      exact R6
  · have e : i = n := by omega
    subst e
    obtain ⟨rfl, rfl⟩ := hd ρ' acc hI
    exact .inl ⟨Tn.stop B1 F1 i _ _ H' (Same.refl _) (Nat.le_refl _) R', k _ H' (bk.rl _ _ _ (Rl.wipeOff (st := some (T.lst acc) :: st) (vst := some (V.ref Dl) :: vst) R' hls' hcl))⟩
/-- [elt for target in .. if ..]: I i ρ acc ahead of the turn i, acc what is made so far -/
theorem ev_lc (own : List (Str × Nat)) (I : Nat → Rho → List T → Prop) (g : Gd X) (hit : Iter X tg it ρ ρ1 n item) (ok : BlkOk X.N X.env.scope scope own) (hc : Clean ρ1 (own.map Prod.snd)) (h0 : I 0 ρ1 [])
    (hs : LcTurn X scope tg elt ifs own n item I)
    (hd : ∀ ρ' acc, I n ρ' acc → acc = accF ∧ ρ' = ρF) (hz : n ≤ 100000) (hfs : ∀ x, foldedSetIterable it X.env x = pure x := by intro _; rfl) : Ev X (.ListComp elt [⟨tg, it, ifs, 0⟩] scope pos) ρ (.lst accF) ρF := by
  obtain ⟨wi, hpi, hw⟩ := hit
  exact ev_of (pe_lc (own := own) g.calm g.nd hpi ok (pg_bk X scope tg) (pts_bk X scope ifs) (pe_bk X scope elt) hfs) fun B F0 st vst σ H Q hl R k => lc_run own I hw hc h0 hs hd hz B F0 st vst σ H Q hl R k
/-- name = [elt for target in .. if ..] -/
theorem s_setLc {y : Str} {py spos : Pos} {Z : Outs} (j : Nat) (own : List (Str × Nat)) (I : Nat → Rho → List T → Prop) (g : Gd X) (hit : Iter X tg it ρ ρ1 n item) (ok : BlkOk X.N X.env.scope scope own) (hc : Clean ρ1 (own.map Prod.snd)) (h0 : I 0 ρ1 [])
    (hs : LcTurn X scope tg elt ifs own n item I)
    (hd : ∀ ρ' acc, I n ρ' acc → acc = accF ∧ ρ' = ρF) (hz : n ≤ 100000) (h : Z.nx (ρF.set j (some (.lst accF)))) (hN : X.N[j]? = some y := by rfl) (hyl : X.env.scope.names.lookup y = some .local := by rfl)
    (hsw : swapsWith (.ListComp elt [⟨tg, it, ifs, 0⟩] scope pos) (some (.Name y py)) spos.line X.env = pure true := by rfl) (hfs : ∀ x, foldedSetIterable it X.env x = pure x := by intro _; rfl) : S1 X (.Assign [.Name y py] (.ListComp elt [⟨tg, it, ifs, 0⟩] scope pos) spos) ρ Z := by
  obtain ⟨wi, hpi, hw⟩ := hit
  exact s1_of (ps_setLc (own := own) g.calm g.nd hN hyl hsw hpi ok (pg_bk X scope tg) (pts_bk X scope ifs) (pe_bk X scope elt) hfs) fun B F0 σ H De Wx tk R m => lc_run own I hw hc h0 hs hd hz B F0 [] [] σ H _ rfl R fun v H1 R1 => m.nx _ _ H1 h (Rl.setS R1)
end
end Vl
end
section
set_option maxRecDepth 100000
set_option maxHeartbeats 2000000
/-! sets of tuples whose items are ints and texts -/
namespace Vl
open PySem PySem.Spec PyProof.Rows L2
section
variable {P : Program} {w : World} {A : Around} {E : Value → Shared → Prop} {s : Shared} {k : List Key} {b : Addr}
/-- the tuple at b is the key k -/
def isK (P : Program) (w : World) (h : Heap) (k : List Key) (b : Addr) : Prop := IsTupleKey (mixKind P w) h k b
def hsK (P : Program) (w : World) (k : List Key) : Int := tupleKeyHash (mixKind P w) k
theorem leafs {vs : List Value} (h : ItemsAre (mixKind P w) k vs) : ∀ v ∈ vs, (∀ n, ofAClassStatement n v = pure false) ∧ ∀ n, ∃ c, hashByValue n v = pure c := by
  induction h with
  | nil => exact fun v hv => absurd hv (by simp)
  | cons h1 _ ih =>
    intro v hv
    cases hv with
    | tail _ hv => exact ih v hv
    | head =>
      rcases keyIs_shape h1 with ⟨i, t, _, rfl⟩ | ⟨x, t, _, rfl⟩
      · exact ⟨fun n => by cases n <;> rfl, fun n => ⟨true, by cases n <;> rfl⟩⟩
      · exact ⟨fun n => by cases n <;> rfl, fun n => ⟨false, by cases n <;> rfl⟩⟩
/-- a turn after the other leaves a question open as it was -/
theorem ask_each {α : Type} {z : Option α × PUnit} {f : Value → Option α × PUnit → Sem (ForInStep (Option α × PUnit))} {Q : Option α × PUnit → Shared → Prop} : ∀ (vs : List Value), (∀ v ∈ vs, f v z = pure (.yield z)) → Q z s → wpAny (model P w) A (forIn vs z f) Q E s
  | [], _, q => wpAny_pure q
  | v :: vs, h, q => by
    rw [List.forIn_cons, h v (by simp)]
    exact wpAny_bind (wpAny_pure (ask_each vs (fun u hu => h u (by simp [hu])) q))
theorem ask_until {α : Type} {z z' : Option α × PUnit} {f : Value → Option α × PUnit → Sem (ForInStep (Option α × PUnit))} {Q : Option α × PUnit → Shared → Prop} : ∀ (vs : List Value), (∀ v ∈ vs, f v z = pure (.yield z) ∨ f v z = pure (.done z')) → Q z s → Q z' s → wpAny (model P w) A (forIn vs z f) Q E s
  | [], _, q, _ => wpAny_pure q
  | v :: vs, h, q, q' => by
    rw [List.forIn_cons]
    rcases h v (by simp) with e | e
    · rw [e]; exact wpAny_bind (wpAny_pure (ask_until vs (fun u hu => h u (by simp [hu])) q q'))
    · rw [e]; exact wpAny_bind (wpAny_pure (wpAny_pure q'))
theorem noClass {Q : Bool → Shared → Prop} (hk : isK P w s.heap k b) (h : Q false s) : wpAny (model P w) A (ofAClassStatement 8 (.ref b)) Q E s := by
  have hT : s.TypeIs (.ref b) "tuple" := IsTupleKey.typeIs (knd := mixKind P w) hk
  obtain ⟨o, vs, n, ho, hc, hd, hi⟩ := hk
  have hl := leafs hi
  unfold ofAClassStatement
  refine wpAny_bind (wpAny_typeOf hT ?_)
  dsimp only
  rw [show (("tuple" : String) == "tuple") = true by decide]
  simp only [if_true, Bool.not_true, Bool.false_eq_true, if_false]
  try refine wpAny_bind (wpAny_pure ?_)
  try simp only [Bool.not_true, Bool.false_eq_true, if_false]
  refine wpAny_bind (m := seqItems? (.ref b)) (wpAny_seqItems ho hd ?_)
  dsimp only
  refine wpAny_bind ?_
  rw [← Array.forIn_toList]
  refine ask_each _ (fun v hv => ?_) ?_
  · rw [(hl v hv).1]; rfl
  · exact wpAny_pure h
theorem byVal {Q : Bool → Shared → Prop} (hk : isK P w s.heap k b) (h : ∀ c, Q c s) : wpAny (model P w) A (hashByValue 8 (.ref b)) Q E s := by
  have hT : s.TypeIs (.ref b) "tuple" := IsTupleKey.typeIs (knd := mixKind P w) hk
  obtain ⟨o, vs, n, ho, hc, hd, hi⟩ := hk
  have hl := leafs hi
  unfold hashByValue
  refine wpAny_bind (wpAny_specialOf hT F.slot_tuple_hash.lookup ?_)
  refine wpAny_bind (m := seqItems? (.ref b)) (wpAny_seqItems ho hd ?_)
  refine wpAny_bind ?_
  rw [← Array.forIn_toList]
  refine ask_until (z' := (some false, ⟨⟩)) _ (fun v hv => ?_) ?_ ?_
  · obtain ⟨c, e⟩ := (hl v hv).2 7
    rw [e]
    cases c with
    | true => exact .inl rfl
    | false => exact .inr rfl
  · exact wpAny_pure (h _)
  · exact wpAny_pure (h _)
theorem unseen {Q : Bool → Shared → Prop} (hk : isK P w s.heap k b) {ys : List Value} (hy : ∀ y ∈ ys, ∃ k' c, y = Value.ref c ∧ isK P w s.heap k' c) (h : Q false s) :
    wpAny (model P w) A (searchCouldBeSeen (.ref b) ys) Q E s := by
  unfold searchCouldBeSeen
  refine wpAny_bind ?_
  refine wpAny_forIn_list _ (fun l r u => r.1 = none ∧ u = s ∧ ∀ y ∈ l, ∃ k' c, y = Value.ref c ∧ isK P w s.heap k' c) _ ?_ ?_ _ _ ⟨rfl, rfl, hy⟩
  · rintro v l r u ⟨e, rfl, all⟩
    obtain ⟨k', c, rfl, hc⟩ := all v (by simp)
    have all' : ∀ y ∈ l, ∃ k' c, y = Value.ref c ∧ isK P w u.heap k' c := fun y hy => all y (by simp [hy])
    dsimp only
    refine wpAny_ite ?_
    split
    · exact wpAny_pure ⟨rfl, rfl, all'⟩
    · refine wpAny_bind (wpAny_eqIsQuiet_tuple (knd := mixKind P w) hk ?_)
      rw [if_neg (by decide)]
      refine wpAny_bind (wpAny_eqIsQuiet_tuple (knd := mixKind P w) hc ?_)
      rw [if_neg (by decide)]
      refine wpAny_bind (noClass hk ?_)
      rw [if_neg (by decide)]
      refine wpAny_bind (noClass hc ?_)
      rw [if_neg (by decide)]
      exact wpAny_pure ⟨rfl, rfl, all'⟩
  · rintro ⟨r1, r2⟩ u ⟨e, rfl, _⟩
    cases e
    exact wpAny_pure h
end
end Vl
end
section
set_option maxRecDepth 100000
set_option maxHeartbeats 2000000
namespace Vl
open PySem PySem.Spec PyProof.Rows L2
/-- step c of the way of the hash h -/
def stp (m : Nat) (h : Int) (c : Nat) : SetTable.Probe := nth m (runAt m (SetTable.bits h % (m + 1)) (SetTable.bits h)) c
theorem nth_dummy (m : Nat) : ∀ (c : Nat) (p : SetTable.Probe), p.dummy = none → (nth m p c).dummy = none
  | 0, _, e => e
  | c + 1, p, e => nth_dummy m c (adv m p) (by unfold adv; split <;> exact e)
theorem look {t : SetTable} {hs : List Int} (T : TabOk t hs) {h : Int} {K c : Nat} (hf : K < 10 * SetTable.turns t.mask) (hK : way t.mask h K ∉ t.place.toList) (hb : ∀ q, q < K → way t.mask h q ∈ t.place.toList) (hc : c ≤ K) (g : Nat → Int) :
    (∃ q i, c ≤ q ∧ q < K ∧ t.place.toList[i]? = some (way t.mask h q) ∧ g i = h ∧ (∀ q' i', c ≤ q' → q' < q → t.place.toList[i']? = some (way t.mask h q') → g i' ≠ h) ∧
      t.probe g h (stp t.mask h c) = some (.candidate (way t.mask h q) i (stp t.mask h (q + 1)))) ∨
    ((∀ q' i', c ≤ q' → q' < K → t.place.toList[i']? = some (way t.mask h q') → g i' ≠ h) ∧ t.probe g h (stp t.mask h c) = some (.empty (way t.mask h K) none)) := by
  have up : ∀ q, nth t.mask (stp t.mask h c) q = stp t.mask h (c + q) := fun q => (nth_add t.mask c _ q).symm
  have upj : ∀ q, (nth t.mask (stp t.mask h c) q).j = way t.mask h (c + q) := fun q => congrArg SetTable.Probe.j (up q)
  have sp := go_spec t T.ris T.dm g h (10 * SetTable.turns t.mask) (K - c) (stp t.mask h c) (nth_dummy _ _ _ rfl) (by omega) (fun q hq => upj q ▸ hb _ (by omega)) (by rw [upj, Nat.add_sub_cancel' hc]; exact hK)
  rcases sp with ⟨q, i, h1, h2, h3, h4, h5⟩ | ⟨h4, h5⟩
  · rw [upj] at h2
    refine .inl ⟨c + q, i, by omega, by omega, h2, h3, fun q' i' l1 l2 e => h4 (q' - c) i' (by omega) (by rw [upj, Nat.add_sub_cancel' l1]; exact e), ?_⟩
    rw [← upj, show c + q + 1 = c + (q + 1) from rfl, ← up]
    exact h5
  · refine .inr ⟨fun q' i' l1 l2 e => h4 (q' - c) i' (by omega) (by rw [upj, Nat.add_sub_cancel' l1]; exact e), ?_⟩
    rw [show way t.mask h K = (nth t.mask (stp t.mask h c) (K - c)).j by rw [upj, Nat.add_sub_cancel' hc]]
    exact h5
abbrev KL := List (Addr × List Key)
def hsL (P : Program) (w : World) (L : KL) : List Int := L.map fun p => hsK P w p.2
def rowL (P : Program) (w : World) (L : KL) : List (Int × Value) := L.map fun p => (hsK P w p.2, Value.ref p.1)
/-- the table of a set of such tuples -/
structure KTab (P : Program) (w : World) (es : Array (Int × Value)) (t : SetTable) (L : KL) : Prop where
  row : es.toList = rowL P w L
  tab : TabOk t (hsL P w L)
  nd : (L.map Prod.snd).Nodup
  gap : L.length * 5 < t.mask * 3
  few : L.length < 64
def KSet (P : Program) (w : World) (h : Heap) (a : Addr) (L : KL) : Prop := ∃ o es ep t, h.get? a = some o ∧ o.ExactSet ∧ o.data = .set es ep t ∧ KTab P w es t L
def KTup (P : Program) (w : World) (h : Heap) (L : KL) : Prop := ∀ p ∈ L, isK P w h p.2 p.1
section
variable {P : Program} {w : World} {A : Around} {E : Value → Shared → Prop} {s : Shared} {L : KL} {es : Array (Int × Value)} {t : SetTable} {a : Addr}
theorem KTab.size (R : KTab P w es t L) : es.size = L.length := by
  rw [← Array.length_toList, R.row]; exact List.length_map _
theorem KTab.fits (R : KTab P w es t L) : t.fits es.size = true := by
  have z := R.tab.sz
  have y : (hsL P w L).length = L.length := List.length_map _
  have g := R.gap
  simp only [SetTable.fits, SetTable.fill, R.tab.dm, Bool.and_eq_true, beq_iff_eq, decide_eq_true_eq, R.size]
  constructor
  · omega
  · show t.place.size + 0 ≤ t.mask
    omega
theorem KTab.at {i : Nat} {p : Addr × List Key} (R : KTab P w es t L) (e : L[i]? = some p) : es[i]? = some (hsK P w p.2, Value.ref p.1) := by
  rw [← Array.getElem?_toList, R.row, rowL, List.getElem?_map, e]; rfl
theorem KTab.in {i j : Nat} (R : KTab P w es t L) (e : t.place.toList[i]? = some j) : ∃ p, L[i]? = some p := by
  have h1 := (List.getElem?_eq_some_iff.mp e).1
  rw [Array.length_toList, R.tab.sz, hsL, List.length_map] at h1
  exact ⟨_, List.getElem?_eq_getElem h1⟩
/-- the search for a place for the key k -/
theorem seek {o : Obj} {ep : Nat} (ho : s.heap.get? a = some o) (hd : o.data = .set es ep t) (R : KTab P w es t L) (ht : KTup P w s.heap L) {x : Addr} {k : List Key} (hx : isK P w s.heap k x) (hu : A.units < cLine) {K : Nat} (hf : K < 10 * SetTable.turns t.mask)
    (hK : way t.mask (hsK P w k) K ∉ t.place.toList) (hb : ∀ c, c < K → way t.mask (hsK P w k) c ∈ t.place.toList) {Q : SetFound → Shared → Prop}
    (yes : k ∈ L.map Prod.snd → Q (.there none) s) (no : k ∉ L.map Prod.snd → Q (.free (way t.mask (hsK P w k) K) false) s) :
    ∀ (n c : Nat) (st : Option SetTable.Probe), st.getD (t.probeStart (hsK P w k)) = stp t.mask (hsK P w k) c → c ≤ K → K < n + c →
      (∀ (i : Nat) (p : Addr × List Key), L[i]? = some p → p.2 = k → ∃ c', c ≤ c' ∧ c' < K ∧ t.place.toList[i]? = some (way t.mask (hsK P w k) c')) →
      wpAny (model P w) A (setSearchFrom a (.ref x) (hsK P w k) true n st) Q E s
  | 0, c, _, _, l1, l2, _ => absurd l1 (by omega)
  | n + 1, c, st, hst, l1, l2, still => by
    rw [setSearchFrom_succ]
    refine wpAny_bind (wpAny_setState_of ho hd R.fits ?_)
    dsimp only
    rw [if_neg (show ¬ t.gaveWay = true by unfold SetTable.gaveWay; rw [mask_odd R.tab.mok]; decide)]
    try refine wpAny_bind (wpAny_pure ?_)
    have hgi : ∀ (i : Nat) (p : Addr × List Key), L[i]? = some p → (es[i]?.map fun y => y.1).getD 0 = hsK P w p.2 := fun i p e => by rw [R.at e]; rfl
    rcases look R.tab hf hK hb l1 (fun i => (es[i]?.map fun y => y.1).getD 0) with ⟨q, i, g1, g2, g3, g4, g5, g6⟩ | ⟨g5, g6⟩
    · rw [hst, g6]
      dsimp only
      obtain ⟨p, hp⟩ := R.in g3
      have pin : p ∈ L := List.mem_of_getElem? hp
      have go : wpAny (model P w) A (searchRest a (.ref x) (hsK P w k) true n es t (way t.mask (hsK P w k) q) i (stp t.mask (hsK P w k) (q + 1))) Q E s := by
        unfold searchRest
        rw [R.at hp]
        dsimp only
        refine wpAny_bind (wpAny_holding (wpAny_eqBool_tuple (knd := mixKind P w) hu (ht p pin) hx ?_))
        refine wpAny_bind (wpAny_setState_of ho hd R.fits ?_)
        dsimp only
        by_cases ek : p.2 = k
        · rw [if_pos (by simp [ek])]
          exact wpAny_pure (yes (List.mem_map.mpr ⟨p, pin, ek⟩))
        · rw [if_neg (by simp [ek])]
          try refine wpAny_bind (wpAny_pure ?_)
          have sl : t.slot (way t.mask (hsK P w k) q) = .live i := slot_live R.tab.ris g3
          simp only [sameMem, if_true, sl, R.at hp]
          refine wpAny_bind (wpAny_isSame_ref_self (wpAny_bind (wpAny_pure ?_)))
          simp only [if_true]
          rw [if_neg (by simp [ek])]
          refine seek ho hd R ht hx hu hf hK hb yes no n (q + 1) _ rfl g2 (by omega) fun i0 p0 e0 k0 => ?_
          obtain ⟨c', b1, b2, b3⟩ := still i0 p0 e0 k0
          refine ⟨c', Nat.lt_of_not_le fun le => ?_, b2, b3⟩
          by_cases eq : c' = q
          · subst eq
            have := (slot_live R.tab.ris b3).symm.trans sl
            injection this with this
            subst this
            rw [hp] at e0
            cases e0
            exact ek k0
          · exact g5 c' i0 b1 (by omega) b3 ((hgi i0 p0 e0).trans (congrArg (hsK P w) k0))
      cases hl : t.led with
      | true => rw [if_neg (by simp)]; first | exact go | exact wpAny_bind (wpAny_pure go)
      | false =>
        rw [if_pos (by simp)]
        refine wpAny_bind (unseen hx (fun y hy => ?_) ?_)
        · obtain ⟨r, hr, er⟩ := List.mem_map.mp hy
          have hr' : r ∈ es.toList := by
            have : r ∈ es ∧ r.1 = hsK P w k := by simpa using hr
            simpa using this.1
          rw [R.row] at hr'
          obtain ⟨p', hp', ep'⟩ := List.mem_map.mp hr'
          exact ⟨p'.2, p'.1, by rw [← er, ← ep'], ht p' hp'⟩
        · rw [if_neg (by decide)]
          first | exact go | exact wpAny_bind (wpAny_pure go)
    · rw [hst, g6]
      dsimp only
      refine wpAny_pure (no fun hm => ?_)
      obtain ⟨p0, m0, k0⟩ := List.mem_map.mp hm
      obtain ⟨i0, l0, rfl⟩ := List.getElem_of_mem m0
      obtain ⟨c', b1, b2, b3⟩ := still i0 _ (List.getElem?_eq_getElem l0) k0
      exact g5 c' i0 b1 b2 b3 ((hgi i0 _ (List.getElem?_eq_getElem l0)).trans (congrArg (hsK P w) k0))
theorem seek0 {o : Obj} {ep : Nat} (ho : s.heap.get? a = some o) (hd : o.data = .set es ep t) (R : KTab P w es t L) (ht : KTup P w s.heap L) {x : Addr} {k : List Key} (hx : isK P w s.heap k x) (hu : A.units < cLine) {Q : SetFound → Shared → Prop}
    (yes : k ∈ L.map Prod.snd → Q (.there none) s)
    (no : ∀ K, k ∉ L.map Prod.snd → way t.mask (hsK P w k) K ∉ t.place.toList → (∀ c, c < K → way t.mask (hsK P w k) c ∈ t.place.toList) → Q (.free (way t.mask (hsK P w k) K) false) s) :
    wpAny (model P w) A (setSearch a (.ref x) (hsK P w k) true) Q E s := by
  have g := R.gap
  have y : (hsL P w L).length = L.length := List.length_map _
  obtain ⟨K, hf, hK, hb⟩ := R.tab.first (by omega) (hsK P w k)
  have small : 10 * SetTable.turns t.mask < 100000 := by
    unfold SetTable.turns
    rcases R.tab.mok with e | e | e <;> rw [e] <;> decide
  unfold setSearch
  refine seek ho hd R ht hx hu hf hK hb yes (fun z => no K z hK hb) 100000 0 none rfl (Nat.zero_le _) (by omega) fun i p e ek => ?_
  have e1 : (hsL P w L)[i]? = some (hsK P w k) := by rw [hsL, List.getElem?_map, e, ← ek]; rfl
  have l1 : i < t.place.toList.length := by
    rw [Array.length_toList, R.tab.sz]
    exact (List.getElem?_eq_some_iff.mp e1).1
  obtain ⟨c, hc, e2⟩ := R.tab.before hK e1 (List.getElem?_eq_getElem l1)
  exact ⟨c, Nat.zero_le _, hc, by rw [e2]; exact List.getElem?_eq_getElem l1⟩
end
end Vl
end
section
set_option maxRecDepth 100000
set_option maxHeartbeats 2000000
namespace Vl
open PySem PySem.Spec PyProof.Rows L2
section
variable {P : Program} {w : World} {A : Around} {E : Value → Shared → Prop} {s : Shared} {L : KL} {es : Array (Int × Value)} {t : SetTable} {a : Addr}
theorem filterMap_get {α β : Type} (f : Nat → Option α) (r : Nat → α) : ∀ l : List Nat, (∀ i ∈ l, f i = some (r i)) → l.filterMap f = l.map r
  | [], _ => rfl
  | i :: l, h => by rw [List.filterMap_cons_some (h i (by simp)), filterMap_get (β := β) f r l fun j hj => h j (by simp [hj])]; rfl
theorem map_range_get {α : Type} [Inhabited α] (L : List α) : (List.range L.length).map (fun i => L.getD i default) = L := by
  refine List.ext_getElem (by simp) fun i h1 h2 => ?_
  simp only [List.getElem_map, List.getElem_range, List.getD_eq_getElem?_getD, List.getElem?_eq_getElem h2, Option.getD_some]
/-- a new table for the same entries -/
theorem relay {o : Obj} {ep : Nat} (ho : s.heap.get? a = some o) (hx : o.ExactSet) (hd : o.data = .set es ep t) (hr : es.toList = rowL P w L) (hz : t.place.size = es.size) (hm : t.dummies = #[]) (hl : es.size ≤ t.mask)
    (nd : (L.map Prod.snd).Nodup) (few : L.length < 64) {wanted M : Nat} (e1 : SetTable.sizeAbove wanted - 1 = M) (hM : MaskOk M) (e2 : SetTable.sizeAbove wanted ≤ 128) (gap : L.length * 5 < M * 3) {Q : Unit → Shared → Prop}
    (hQ : ∀ h' L', Heap.SameBut a s.heap h' → KSet P w h' a L' → L'.Perm L → Q () { s with heap := h' }) : wpAny (model P w) A (setRelay a wanted) Q E s := by
  have z : es.size = L.length := by rw [← Array.length_toList, hr]; exact List.length_map _
  have fit : t.fits es.size = true := by
    simp only [SetTable.fits, SetTable.fill, hm, Bool.and_eq_true, beq_iff_eq, decide_eq_true_eq]
    exact ⟨hz, by show t.place.size + 0 ≤ t.mask; omega⟩
  obtain ⟨t', order, f1, f2, f3, f4, f5, f6, f7⟩ := relaid_ok t (hs := es.map (·.1)) (wanted := wanted) e1 hM (by rw [Array.size_map, z]; omega)
  rw [Array.size_map, z] at f2
  have at_ : ∀ i, i < L.length → es[i]? = some (hsK P w (L.getD i default).2, Value.ref (L.getD i default).1) := fun i hi => by
    rw [← Array.getElem?_toList, hr, rowL, List.getElem?_map, List.getD_eq_getElem?_getD, List.getElem?_eq_getElem hi]; rfl
  have lt : ∀ i ∈ order.toList, i < L.length := fun i hi => List.mem_range.mp (f2.mem_iff.mp hi)
  have row2 : (order.filterMap (es[·]?)).toList = rowL P w (order.toList.map fun i => L.getD i default) := by
    rw [Array.toList_filterMap, filterMap_get (β := Nat) _ (fun i => (hsK P w (L.getD i default).2, Value.ref (L.getD i default).1)) _ fun i hi => at_ i (lt i hi), rowL, List.map_map]
    rfl
  have pm : (order.toList.map fun i => L.getD i default).Perm L := by
    have := f2.map fun i => L.getD i default
    rwa [map_range_get] at this
  have tab2 : TabOk t' (hsL P w (order.toList.map fun i => L.getD i default)) := by
    have : hsL P w (order.toList.map fun i => L.getD i default) = order.toList.map fun i => (es.map (·.1)).getD i 0 := by
      rw [hsL, List.map_map]
      refine List.map_congr_left fun i hi => ?_
      have : (es.map (·.1))[i]? = some (hsK P w (L.getD i default).2) := by rw [Array.getElem?_map, at_ i (lt i hi)]; rfl
      rw [Array.getD_eq_getD_getElem?, this]
      rfl
    rw [this]; exact f3
  have z2 : (order.filterMap (es[·]?)).size = es.size := by rw [← Array.length_toList, row2, rowL, List.length_map, pm.length_eq, z]
  rw [setRelay_eq]
  refine wpAny_bind (wpAny_setState_of ho hd fit ?_)
  dsimp only
  rw [if_neg (by rw [sizeLine_eq]; omega)]
  try refine wpAny_bind (wpAny_pure ?_)
  rw [f1]
  dsimp only
  refine wpAny_bind ?_
  rw [if_neg (by rw [z2]; simp)]
  try refine wpAny_bind (wpAny_pure ?_)
  refine wpAny_pure ?_
  dsimp only
  generalize order.filterMap (es[·]?) = es' at row2 z2 ⊢
  refine wpAny_storeSet_of ho hd ?_ (by rw [z2, z, sizeLine_eq]; omega)
  exact hQ _ _ (Heap.SameBut.update ..) ⟨_, es', ep + 1, t', store_at ho hd, ⟨hx.1, hx.2.1, hx.2.2⟩, rfl, ⟨row2, tab2, (pm.map Prod.snd).nodup_iff.mpr nd, by rw [pm.length_eq, f4]; exact gap, by rw [pm.length_eq]; exact few⟩⟩ pm
/-- found.add(k) behind the hash -/
theorem addK {x : Addr} {k : List Key} (R : KSet P w s.heap a L) (ht : KTup P w s.heap L) (hx : isK P w s.heap k x) (hu : A.units < cLine) (few : L.length + 1 < 64) {Q : Bool → Shared → Prop}
    (hQ : ∀ c h' L', Heap.SameBut a s.heap h' → KSet P w h' a L' → (k ∈ L.map Prod.snd → L' = L) → (k ∉ L.map Prod.snd → L'.Perm ((x, k) :: L)) → Q c { s with heap := h' }) :
    wpAny (model P w) A (setAddHashed a (.ref x) (hsK P w k)) Q E s := by
  obtain ⟨o, es, ep, t, ho, hex, hd, R⟩ := id R
  have sz := R.size
  have gap := R.gap
  unfold setAddHashed
  refine wpAny_holding ?_
  rw [show (100000 : Nat) = 99999 + 1 from rfl, setAddHashedIn_succ]
  refine wpAny_bind (wpAny_setState_of ho hd R.fits ?_)
  dsimp only
  rw [if_neg (by simp [byScan, Value.scannable])]
  try refine wpAny_bind (wpAny_pure ?_)
  refine wpAny_bind (seek0 ho hd R ht hx hu (fun old => ?_) fun K new hK hb => ?_)
  · exact wpAny_pure (hQ false s.heap L (Heap.SameBut.refl a s.heap) ⟨o, es, ep, t, ho, hex, hd, R⟩ (fun _ => rfl) fun z => absurd old z)
  dsimp only
  refine wpAny_bind (wpAny_setState_of ho hd R.fits ?_)
  dsimp only
  obtain ⟨p1, p2, p3, p4, p5, p6, p7, p8, p9⟩ := R.tab.put hK hb
  generalize t.put (way t.mask (hsK P w k) K) = pt at p1 p3 p4 p5 p6 p7 p8 p9 ⊢
  obtain ⟨t1, p⟩ := pt
  dsimp only at p1 p3 p4 p5 p6 p7 p8 p9 ⊢
  subst p1
  generalize SetTable.below t.place (way t.mask (hsK P w k) K) = p at p2 p3 ⊢
  have rw1 : (SetTable.insertAt es p (hsK P w k, Value.ref x)).toList = rowL P w (L.take p ++ (x, k) :: L.drop p) := by
    rw [SetTable.toList_insertAt, R.row, rowL, rowL, List.map_append, List.map_cons, List.map_take, List.map_drop]
  have hs1 : (hsL P w L).take p ++ hsK P w k :: (hsL P w L).drop p = hsL P w (L.take p ++ (x, k) :: L.drop p) := by
    rw [hsL, hsL, List.map_append, List.map_cons, List.map_take, List.map_drop]
  have pm : (L.take p ++ (x, k) :: L.drop p).Perm ((x, k) :: L) := put_perm L p (x, k)
  rw [hs1] at p3
  generalize L.take p ++ (x, k) :: L.drop p = L1 at pm p3 rw1
  generalize SetTable.insertAt es p (hsK P w k, Value.ref x) = es1 at rw1 ⊢
  have len1 : L1.length = L.length + 1 := pm.length_eq
  have z1 : es1.size = L.length + 1 := by rw [← Array.length_toList, rw1, rowL, List.length_map, len1]
  have nd1 : (L1.map Prod.snd).Nodup := (pm.map Prod.snd).nodup_iff.mpr (List.nodup_cons.mpr ⟨new, R.nd⟩)
  -- whatever the table says of its being plain
  have rest : ∀ t2 : SetTable, t2.place = t1.place → t2.dummies = t1.dummies → t2.mask = t1.mask → t2.fill = t1.fill → TabOk t2 (hsL P w L1) →
      wpAny (model P w) A (do storeSet a es1 t2; if (!false && t2.tooFull) = true then (do setRelay a (SetTable.grown (es.size + 1)); pure true) else pure true) Q E s := fun t2 u1 u2 u3 u4 T2 => by
    have zt : t2.place.size = es1.size := by
      have := T2.sz
      rw [hsL, List.length_map, len1] at this
      rw [this, z1]
    have lm : es1.size ≤ t2.mask := by
      have := R.tab.mok
      rw [z1, u3, p4]
      rcases this with e | e | e <;> rw [e] at gap ⊢ <;> omega
    refine wpAny_bind (wpAny_storeSet_of ho hd ?_ (by rw [z1, sizeLine_eq]; omega))
    have sb : Heap.SameBut a s.heap (s.heap.update a (Obj.putSet es1 t2)) := Heap.SameBut.update ..
    have ho1 := store_at (es' := es1) (t' := t2) ho hd
    generalize s.heap.update a (Obj.putSet es1 t2) = h1 at sb ho1 ⊢
    cases full : t2.tooFull with
    | false =>
      simp only [Bool.not_false, Bool.and_false, Bool.false_eq_true, if_false]
      refine (wpAny_pure (hQ true h1 L1 sb ⟨_, es1, ep + 1, t2, ho1, ⟨hex.1, hex.2.1, hex.2.2⟩, rfl, ⟨rw1, T2, nd1, ?_, by omega⟩⟩ (fun z => absurd z new) fun _ => pm))
      unfold SetTable.tooFull at full
      rw [decide_eq_false_iff_not, u4, p9, hsL, List.length_map] at full
      omega
    | true =>
      simp only [Bool.not_false, Bool.and_true, if_true]
      unfold SetTable.tooFull at full
      rw [decide_eq_true_eq, u4, p9, u3, p4, hsL, List.length_map] at full
      have go : ∀ M, SetTable.sizeAbove (SetTable.grown (L.length + 1)) - 1 = M → MaskOk M → SetTable.sizeAbove (SetTable.grown (L.length + 1)) ≤ 128 → (L.length + 1) * 5 < M * 3 →
          wpAny (model P w) A (setRelay a (SetTable.grown (es.size + 1)) >>= fun _ => pure true) Q E { s with heap := h1 } := fun M m1 m2 m3 m4 => by
        rw [sz]
        refine wpAny_bind (relay (s := { s with heap := h1 }) ho1 ⟨hex.1, hex.2.1, hex.2.2⟩ rfl rw1 zt T2.dm lm nd1 (by omega) m1 m2 m3 (by omega) fun h2 L2 sb2 R2 pm2 => ?_)
        exact wpAny_pure (hQ true h2 L2 (sb.trans sb2) R2 (fun z => absurd z new) fun _ => pm2.trans pm)
      have two : L.length = 4 ∨ L.length = 18 := by
        rcases R.tab.mok with e | e | e <;> rw [e] at full gap <;> omega
      rcases two with e | e
      · exact go 31 (by rw [e, size_20]) (.inr (.inl rfl)) (by rw [e, size_20]; decide) (by omega)
      · exact go 127 (by rw [e, size_76]) (.inr (.inr rfl)) (by rw [e, size_76]; decide) (by omega)
  have T1 : ∀ c : Bool, TabOk { t1 with plain := c } (hsL P w L1) := fun c => ⟨p3.ris, p3.dm, p3.sz, p3.mok, p3.bd, p3.reach⟩
  have fin : ∀ c : Bool, wpAny (model P w) A (do storeSet a es1 (if c = true then t1 else { t1 with plain := false }); if (!false && (if c = true then t1 else { t1 with plain := false }).tooFull) = true then (do setRelay a (SetTable.grown (es.size + 1)); pure true) else pure true) Q E s := fun c => by
    cases c with
    | true => exact rest t1 rfl rfl rfl rfl p3
    | false => exact rest { t1 with plain := false } rfl rfl rfl rfl (T1 false)
  refine wpAny_ite ?_
  split
  · exact wpAny_bind (byVal hx fun c => fin c)
  · exact wpAny_bind (wpAny_pure (fin true))
end
end Vl
end
section
set_option maxRecDepth 100000
set_option maxHeartbeats 2000000
namespace Vl
open PySem PySem.Spec PyProof.Rows L2
section
variable {P : Program} {w : World} {A : Around} {E : Value → Shared → Prop} {s : Shared} {L : KL} {a x : Addr} {k : List Key}
theorem KSet.is {h : Heap} (R : KSet P w h a L) : ∃ o, h.get? a = some o ∧ o.cls = .type "set" := by
  obtain ⟨o, es, ep, t, ho, hx, _⟩ := R
  exact ⟨o, ho, hx.1⟩
theorem call_addK (R : KSet P w s.heap a L) (ht : KTup P w s.heap L) (hx : isK P w s.heap k x) (hu : A.units + 64 < cLine) (few : L.length + 1 < 64) {Q : Value → Shared → Prop}
    (hQ : ∀ h' L' tk, Heap.SameBut a s.heap h' → KSet P w h' a L' → (k ∈ L.map Prod.snd → L' = L) → (k ∉ L.map Prod.snd → L'.Perm ((x, k) :: L)) → Q .none { s with heap := h', toks := tk }) :
    wpAny (model P w) A (call (.builtin "set.add") [.ref a, .ref x]) Q E s := by
  refine wpAny_call_entry F.slot_set_add (R.is : s.TypeIs (.ref a) "set") F.entry_set_add ?_ (F.args_set_add_2 _ _)
  unfold Builtin.«set.add» Builtin.Frozenset.oneOther
  simp only [List.isEmpty_nil, bind_assoc]
  unfold Builtin.Frozenset.addrOf setAdd
  refine wpAny_bind (wpAny_pure ?_)
  try dsimp only
  refine wpAny_bind (wpAny_pure ?_)
  try dsimp only
  refine wpAny_bind (wpAny_holding ?_)
  refine wpAny_bind (wpAny_pyHash_tuple (knd := mixKind P w) ?_ hx ?_)
  · show A.units + 1 < cLine
    omega
  · refine addK (s := { s with toks := s.toks + (k.length + 1) }) R ht hx ?_ few fun c h' L' sb R' o1 o2 => ?_
    · show A.units + 1 < cLine
      omega
    · show wpAny _ _ (ret Value.none) _ _ _
      exact wpAny_pure ⟨_, rfl, hQ h' L' _ sb R' o1 o2⟩
theorem len_K (R : KSet P w s.heap a L) {Q : Value → Shared → Prop} (h : ∀ tk tk', Q (.int L.length tk) { s with toks := tk' }) : wpAny (model P w) A (call (.builtin "len") [.ref a]) Q E s := by
  obtain ⟨o, es, ep, t, ho, hx, hd, R⟩ := R
  refine call_len_set ho hx hd R.fits (by have := R.few; have := R.size; omega) ?_
  rw [R.size]
  exact h _ _
theorem len_I {S : Int → Bool} {n : Nat} (R : SetR w s.heap a S n) (hn : n < 1000) {Q : Value → Shared → Prop} (h : ∀ tk tk', Q (.int n tk) { s with toks := tk' }) : wpAny (model P w) A (call (.builtin "len") [.ref a]) Q E s := by
  obtain ⟨o, es, ep, t, ho, hx, hd, _, _, _, _, hf, hz, _⟩ := R
  refine call_len_set ho hx hd hf (by omega) ?_
  rw [hz]
  exact h _ _
theorem kset_new (w : World) {h : Heap} : KSet P w (h.push { cls := .type "set", dict := none, data := .set #[] 0 (.fresh 0 0 (!w.params.followText "set-order")) }) h.objs.size [] :=
  ⟨_, #[], 0, _, Heap.get?_push_size _ rfl, ⟨rfl, rfl, rfl⟩, rfl, rfl, { ris := List.Pairwise.nil, dm := rfl, sz := rfl, mok := .inl rfl, bd := fun x hx => by simp [SetTable.fresh] at hx, reach := fun i h j e => by simp [hsL] at e }, List.nodup_nil, by show 0 * 5 < 7 * 3; decide, by decide⟩
end
/-- as a thing of the layer -/
def KSo (P : Program) (w : World) (a : Addr) (L : KL) : HO := .ext fun h => KSet P w h a L
theorem kso_ok {P : Program} {w : World} {H : Hp} {h : Heap} {a : Addr} {L : KL} (R : KSet P w h a L) : ObjOk P w H h a (KSo P w a L) :=
  ⟨R, by have ⟨o, ho, _⟩ := R.is; exact ⟨o, ho⟩, fun h1 h2 p kp => by
    have ⟨o, es, ep, t, ho, r⟩ := (p : KSet P w h1 a L)
    exact ⟨o, es, ep, t, kp o ho, r⟩⟩
theorem items_key {P : Program} {w : World} : ∀ {k : List Key} {us : List Value}, Vals (k.map kV) us → ItemsAre (mixKind P w) k us
  | [], _, .nil => .nil
  | _ :: _, _, .cons r t => .cons (kV_is r) (items_key t)
section
variable {X : Cx} {pins : List (Addr × Obj)} {σ : L2.St} {H : Hp} {s : Shared}
theorem inv_isK {b : Addr} {k : List Key} (I : Inv X pins σ H s) (h : SqT X.K H b (k.map kV)) : isK X.prog X.w s.heap k b := by
  obtain ⟨us, r, ⟨o, ho, hc, n, hd⟩, _⟩ := I.tuple h
  exact ⟨o, us.toArray, n, ho, hc, hd, by rw [List.toList_toArray]; exact items_key r⟩
/-- found.add(k), k such a tuple -/
def rAddT (K : PySem.W.Frag) (P : Program) (w : World) : V → List V → Hp → VK → Prop := fun x xs H Q => ∃ (a b : Addr) (k : List Key) (L : KL), x = .ref a ∧ xs = [.ref b] ∧ H a = some (KSo P w a L) ∧ (∀ p ∈ L, SqT K H p.1 (p.2.map kV)) ∧ SqT K H b (k.map kV) ∧ L.length + 1 < 64 ∧
  ∀ L' : KL, (k ∈ L.map Prod.snd → L' = L) → (k ∉ L.map Prod.snd → L'.Perm ((b, k) :: L)) → Q .non (upd H a (KSo P w a L'))
theorem mt_addT (hu : X.A.units + 64 < cLine) : MtR X "set.add" (rAddT X.K X.prog X.w) := by
  rintro pins s σ H x xs v us Q I rx rxs ⟨a, b, k, L, rfl, rfl, ha, hL, hb, few, q⟩
  cases rx
  cases rxs with
  | cons ry rt =>
    cases rt
    cases ry
    have R : KSet X.prog X.w s.heap a L := (I.hok a _ ha).1
    refine call_addK R (fun p hp => inv_isK I (hL p hp)) (inv_isK I hb) hu few fun h' L' tk sb R' o1 o2 => ?_
    have ⟨o, ho, _⟩ := R'.is
    exact ⟨.non, _, I.write (e := a) (t' := tk) (by rw [ha]; trivial) (.inl rfl) (fun c u hc hu' => (sb.2 c hc).trans hu') ⟨o, ho⟩ (kso_ok R'), rfl, q L' o1 o2⟩
/-- len of a set -/
def rLenK (P : Program) (w : World) : List V → Hp → VK → Prop := fun xs H Q => ∃ a, xs = [.ref a] ∧ ((∃ L, H a = some (KSo P w a L) ∧ Q (.int (L.length : Nat)) H) ∨ ∃ S n, H a = some (SetO w a S n) ∧ n < 1000 ∧ Q (.int (n : Nat)) H)
theorem cr_lenK : CallR X (.builtin "len") (rLenK X.prog X.w) := by
  rintro pins s σ H xs us Q I r ⟨a, rfl, q⟩
  obtain ⟨u, rfl, rx⟩ := vals1 r
  cases rx
  rcases q with ⟨L, ha, q⟩ | ⟨S, n, ha, hn, q⟩
  · exact len_K (I.hok a _ ha).1 fun tk tk' => ⟨.int _, H, I.tok tk', ⟨tk, rfl⟩, q⟩
  · exact len_I (setO_get I ha) hn fun tk tk' => ⟨.int _, H, I.tok tk', ⟨tk, rfl⟩, q⟩
end
end Vl
end
section
set_option maxRecDepth 100000
set_option maxHeartbeats 2000000
namespace Vl
open PySem PySem.Spec PyProof.Rows L2 PpSet
/-- {elt for target in iter if ..}: mk D the new set, r what adding asks and does -/
def tSet (mk : Addr → HO) (r : V → List V → Hp → VK → Prop) (wi : TI) (g : TG) (tt : TT) (te : TE) (vs : List Nat) : TE := fun σ H Q => wi σ H fun J H1 => ∀ D, H1 D = none → ∃ W : Nat → Nat → Hp → Prop, (∃ m, W 0 m (upd H1 D (mk D))) ∧ ∀ i m H, W i m H →
  (J.stop i H ∧ Q (.ref D) H) ∨ (J.go i H ∧ ∃ Nx : Hp → Prop, (∀ H', Nx H' → ∃ m', m' < m ∧ W (i + 1) m' H') ∧ ∀ x H', J.yld i H x H' → g x (wipe σ vs) H' fun σ2 H2 => wipe σ2 vs = wipe σ vs ∧ tt σ2 H2 fun b H3 =>
    if b = true then te σ2 H3 fun y H4 => r (.ref D) [y] H4 fun _ H5 => Nx H5 else Nx H3)
abbrev noSet (w : World) : Obj := { cls := .type "set", dict := none, data := .set #[] 0 (.fresh 0 0 (!w.params.followText "set-order")) }
section
variable {X : Cx} {elt tg iter : Expr} {ifs : List Expr} {scope : Scope} {own : List (PySem.Str × Nat)} {pos : Pos} {wi : TI} {g : TG} {tt : TT} {te : TE} {mk : Addr → HO} {r : V → List V → Hp → VK → Prop}
abbrev InBlk (X : Cx) (scope : Scope) (p : Cx → Prop) : Prop := ∀ (s : Shared) (H : Hp) (C : Addr) (cl : List (PySem.Str × Addr)) (fp : List Addr), p (X.blk s H scope (compEnvC scope cl C X.env) fp)
theorem pe_set (hc : X.calm = true) (hN : X.N.Nodup) (hi : PI X tg iter wi) (ok : BlkOk X.N X.env.scope scope own) (hn : ∀ (H : Hp) (h : Heap), ObjOk X.prog X.w H (h.push (noSet X.w)) h.objs.size (mk h.objs.size))
    (hr : InBlk X scope fun Y => MtR Y "set.add" r) (hg : InBlk X scope fun Y => PG Y tg g) (ht : InBlk X scope fun Y => PTs Y ifs tt) (he : InBlk X scope fun Y => PE Y elt te) (hs : ∀ x, foldedSetIterable iter X.env x = pure x := by intro _; rfl) :
    PE X (.SetComp elt [⟨tg, iter, ifs, 0⟩] scope pos) (tSet mk r wi g tt te (own.map Prod.snd)) := by
  constructor
  intro pins s σ H Q I h
  rw [eval_SetComp]
  have capt : ∀ y ∈ scope.names, y.2 = .free → ∃ c, X.env.cells.lookup y.1 = some c := fun y hy e => (ok.free y hy e).elim (fun z => I.ok.has _ (.inl z)) fun z => I.ok.has _ (.inr z)
  refine wpAny_comprehension_free rfl hs (closure_ok capt) ok.kind (fun y hy e => (ok.uniq y hy).trans (congrArg some e)) (thn (hi.run pins s σ H _ I h) fun _ u1 hx => thn hx fun _ u2 h2 => ?_)
  obtain ⟨it, fp, tn, J, HJ, rfl, IJ, T, st, fk, q⟩ := h2
  refine newSet_ok (newEnv_comp ?_)
  obtain ⟨D, hD⟩ : ∃ D, D = u2.heap.objs.size := ⟨_, rfl⟩
  rw [← hD]
  have fresh : HJ D = none := IJ.hok.fresh (Nat.le_of_eq hD.symm)
  obtain ⟨W, ⟨m0, w0⟩, turn⟩ := q D fresh
  -- the set is there
  obtain ⟨u3, hu3⟩ : ∃ u3 : Shared, u3 = { u2 with heap := u2.heap.push (noSet X.w) } := ⟨_, rfl⟩
  obtain ⟨HD, hHD⟩ : ∃ HD, HD = upd HJ D (mk D) := ⟨_, rfl⟩
  have I3 : Inv X pins σ HD u3 := by
    subst hHD hu3 hD
    exact IJ.laid (t' := u2.toks) (fun b o e => Heap.get?_push_of_some _ e) (Nat.le_refl _) (hn _ u2.heap)
  have push3 : ∀ b o, u2.heap.get? b = some o → u3.heap.get? b = some o := fun b o e => by rw [hu3]; exact Heap.get?_push_of_some _ e
  have hfp : ∀ b ∈ fp, FpOk X pins HD b ∧ b < u3.heap.objs.size := fun b hb => by
    obtain ⟨o, e, _⟩ := T.obj _ _ st b hb
    have lt := Heap.lt_size e
    refine ⟨⟨?_, (fk b hb).2⟩, Heap.lt_size (push3 b o e)⟩
    rw [hHD, upd_ne (Nat.ne_of_lt (by rw [hD]; exact lt))]
    exact (fk b hb).1
  have I4 := block_start I3 ok hN hfp
  have nofp : ∀ b ∈ fp, HD b = none := fun b hb => (hfp b hb).1.1
  rw [← hHD] at w0
  obtain ⟨cl, hcl⟩ : ∃ cl, cl = cellsFrom (u3.heap.objs.size + 1) scope.names (cloFrom X.env.cells scope.names []) := ⟨_, rfl⟩
  have pg := hg u3 HD u3.heap.objs.size cl fp
  have pt := ht u3 HD u3.heap.objs.size cl fp
  have pe := he u3 HD u3.heap.objs.size cl fp
  have pr := hr u3 HD u3.heap.objs.size cl fp
  have start : codeAny (model X.prog X.w) X.A (.compStart (.SetComp elt [⟨tg, iter, ifs, 0⟩] scope pos) 0 (.ref it) (.ref D) (compEnvC scope cl u3.heap.objs.size X.env)) (compPost (model X.prog X.w) X.A X.xe none (EP X pins σ Q) (.ref D) u3.heap.objs.size) { u3 with heap := pushCells (u3.heap.push { cls := .type "dict", data := .dict #[] }) scope.names } := by
    rw [← hcl] at I4
    have cL : (compEnvC scope cl u3.heap.objs.size X.env).locals = u3.heap.objs.size := rfl
    generalize compEnvC scope cl u3.heap.objs.size X.env = ce at I4 pg pt pe pr cL ⊢
    have st4 : tn 0 ({ u3 with heap := pushCells (u3.heap.push { cls := .type "dict", data := .dict #[] }) scope.names } : Shared).heap :=
      T.keep _ _ _ st fun b _ o e => pushCells_keeps _ _ _ _ (Heap.get?_push_of_some _ (push3 b o e))
    generalize ({ u3 with heap := pushCells (u3.heap.push { cls := .type "dict", data := .dict #[] }) scope.names } : Shared) = u4 at I4 st4 ⊢
    refine codeAny_compStart_set ?_ (T.self X.A 0 _ _ _ st4 ?_) <;>
    · refine compLoopS_any (fun n v => ∃ i Hv, Inv (X.blk u3 HD scope ce fp) [] (wipe σ (own.map Prod.snd)) Hv v ∧ tn i v.heap ∧ (∀ b ∈ fp, Hv b = none) ∧ W i n Hv) ?_ m0 ⟨0, HD, I4, st4, nofp, w0⟩
      rintro n v ⟨i, Hv, Iv, stv, nv, wv⟩
      have fpk : ∀ {σ' : L2.St} {H' : Hp} {s' : Shared}, Inv (X.blk u3 HD scope ce fp) [] σ' H' s' → (∀ b ∈ fp, H' b = none) → ∀ b ∈ fp, FpOk (X.blk u3 HD scope ce fp) [] H' b := fun I' n' b hb =>
        ⟨n' b hb, (I'.ok.exf b hb).1, I'.ok.exfs b hb, .inl hb, fun y c e => (I'.ok.exf b hb).2 y c e, fun p hp => absurd (show p ∈ ([] : List (Addr × Obj)) ++ [] from hp) (by simp)⟩
      rcases turn i n Hv wv with ⟨stop, done⟩ | ⟨go, Nx, back, step⟩
      · refine thnF (T.done (X.blk u3 HD scope ce fp) rfl rfl rfl hc i [] v _ Hv (fun _ _ => False) Iv (fpk Iv nv) stv stop) fun y v' ⟨e, I6⟩ => ?_
        subst e
        have I7 : Inv X pins σ Hv v' := I3.call' (ch := fp) I6.os I6.base I6.hok I6.bare fun b hb => ⟨(hfp b hb).1.2.2.2.1, (hfp b hb).1.2.1, (hfp b hb).1.2.2.2.2.1, (hfp b hb).1.2.2.2.2.2⟩
        have nC : Hv u3.heap.objs.size = none := cL ▸ (I6.free : Hv ce.locals = none)
        obtain ⟨m, hm, _⟩ := I6.loc
        replace hm : v'.heap.Ns ce.locals m := hm
        rw [cL] at hm
        obtain ⟨f0, f1, f2, f3, f4, f5⟩ := I3.fpOk (Nat.le_refl _) nC
        exact ⟨m, hm, fun h'' sb => ⟨.ref D, Hv, I7.turned (t' := v'.toks) (fun b o hb e => (sb.2 b hb).trans e) f0 f1 f3 f4 f5, rfl, done⟩⟩
      · refine thnF (T.item (X.blk u3 HD scope ce fp) rfl rfl rfl hc i [] v _ Hv (fun _ _ => False) Iv (fpk Iv nv) stv go) fun y v1 ⟨z, e, h6⟩ => ?_
        subst e
        refine thnF h6 fun _ v2 ⟨x, H2, I2, r2, y2, st2, n2⟩ => ?_
        refine thnF (pg.run _ v2 _ H2 x z _ (I2.pinned (fpk I2 n2) (T.obj _ _ st2)) r2 (step x H2 y2)) fun _ v3 ⟨σ3, H3, I3', w3, q3⟩ => ?_
        refine thnF (pt.run _ v3 σ3 H3 _ I3' q3) fun b v4 ⟨H4, I4', q4⟩ => ?_
        have close : ∀ {v' : Shared} {H' : Hp}, Inv (X.blk u3 HD scope ce fp) ([] ++ pinsAt fp v2.heap) σ3 H' v' → Nx H' → ∃ m, m < n ∧ ∃ i H', Inv (X.blk u3 HD scope ce fp) [] (wipe σ (own.map Prod.snd)) H' v' ∧ tn i v'.heap ∧ (∀ b ∈ fp, H' b = none) ∧ W i m H' := fun {v' H'} I' nx => by
          obtain ⟨m', lt, w'⟩ := back H' nx
          have pinned : ∀ b ∈ fp, ∀ o, v2.heap.get? b = some o → v'.heap.get? b = some o ∧ H' b = none := fun b hb o e => by
            have := I'.pin (b, o) (List.mem_append_right _ (List.mem_append_right _ (mem_pinsAt hb e)))
            exact ⟨this.1, this.2.1⟩
          refine ⟨m', lt, i + 1, H', (I'.unpinned (pins := [])).weak (by rw [← w3, wipe_length]) (fun j y e => ?_), T.keep _ _ _ st2 fun b hb o e => (pinned b hb o e).1, fun b hb => ?_, w'⟩
          · rw [← w3] at e
            exact (wipe_some e).1
          · obtain ⟨o, e, _⟩ := T.obj _ _ st2 b hb
            exact (pinned b hb o e).2
        cases b with
        | false =>
          rw [if_neg (by decide)] at q4 ⊢
          exact close I4' q4
        | true =>
          rw [if_pos rfl] at q4 ⊢
          refine thnF (pe.run _ v4 σ3 H4 _ I4' q4) fun z5 v5 ⟨y5, H5, I5, r5, q5⟩ => ?_
          refine thnF (pr _ v5 σ3 H5 (.ref D) [y5] (.ref D) [z5] _ I5 rfl (.cons r5 .nil) q5) fun _ v6 ⟨y6, H6, I6, r6, q6⟩ => close I6 q6
  rw [hcl, hu3] at start
  exact start
end
end Vl
end
section
set_option maxRecDepth 100000
namespace Vl
open PySem L2
/-! ### len of a set comprehension -/
section
variable {K : PySem.W.Frag} {B F0 F H : Hp} {ρ : Rho} {σ : St} {a : Addr} {z z' : HO}
theorem RlF.wrB (h : RlF K (upd B a z) F0 F ρ σ H) (hF : F a = none) : RlF K (upd B a z') F0 F ρ σ (upd H a z') := by
  obtain ⟨A, e0, e1, e2, dm, o, nd, fr⟩ := h
  have ne : ∀ {b u}, F b = some u → b ≠ a := fun {b u} e x => by subst x; rw [hF] at e; cases e
  have nA : ∀ b ∈ A, b ≠ a := fun b hb x => by
    have := (fr b hb).2
    rw [x, upd_same] at this
    cases this
  refine ⟨A, e0, fun b u e => ?_, fun b u e => ?_, fun b u e => ?_, o.mono (Same.refl _) fun b hb u e => by rw [upd_ne (nA b hb)]; exact e, nd, fun b hb => ⟨(fr b hb).1, ?_⟩⟩
  · rcases e1 b u e with q | ⟨o, kvs, q1, q2⟩
    · exact .inl (by rw [upd_ne (ne e)]; exact q)
    · exact .inr ⟨o, kvs, q1, by rw [upd_ne (ne e)]; exact q2⟩
  · by_cases x : b = a
    · subst x
      rw [upd_same] at e
      exact .inl (by rw [upd_same]; exact e)
    · rw [upd_ne x] at e
      rcases e2 b u (by rw [upd_ne x]; exact e) with q | ⟨q0, o, kvs, q1, q2⟩
      · exact .inl (by rw [upd_ne x]; exact q)
      · exact .inr ⟨q0, o, kvs, q1, by rw [upd_ne x]; exact q2⟩
  · rcases dm b u e with q | q
    · exact .inl q
    · right
      rw [upd_ne (ne e)] at q ⊢
      exact q
  · have q := (fr b hb).2
    rw [upd_ne (nA b hb)] at q ⊢
    exact q
theorem Rl.inB (h : Rl K B F0 ρ σ H) (hH : H a = none) : ∃ F, RlF K (upd B a z) F0 F ρ σ (upd H a z) ∧ F a = none ∧ F0 a = none ∧ B a = none := by
  obtain ⟨F, A, e0, e1, e2, dm, o, nd, fr⟩ := h
  have hF : F a = none := e1.free hH
  have hF0 : F0 a = none := none_of_ne fun u q => by rw [e0 a u q] at hF; cases hF
  have hB : B a = none := e2.free hH
  have ne : ∀ {b u}, F b = some u → b ≠ a := fun {b u} e x => by subst x; rw [hF] at e; cases e
  have nA : ∀ b ∈ A, b ≠ a := fun b hb x => by
    obtain ⟨u, q⟩ := o.there b hb
    rw [x, hH] at q
    cases q
  refine ⟨F, ⟨A, e0, fun b u e => ?_, fun b u e => ?_, fun b u e => ?_, o.mono (Same.refl _) fun b hb u e => by rw [upd_ne (nA b hb)]; exact e, nd, fun b hb => ⟨(fr b hb).1, by rw [upd_ne (nA b hb)]; exact (fr b hb).2⟩⟩, hF, hF0, hB⟩
  · rcases e1 b u e with q | ⟨o, kvs, q1, q2⟩
    · exact .inl (by rw [upd_ne (ne e)]; exact q)
    · exact .inr ⟨o, kvs, q1, by rw [upd_ne (ne e)]; exact q2⟩
  · by_cases x : b = a
    · subst x
      rw [upd_same] at e
      exact .inl (by rw [upd_same]; exact e)
    · rw [upd_ne x] at e
      rcases e2 b u e with q | ⟨q0, o, kvs, q1, q2⟩
      · exact .inl (by rw [upd_ne x]; exact q)
      · exact .inr ⟨q0, o, kvs, q1, by rw [upd_ne x]; exact q2⟩
  · rcases dm b u e with q | q
    · exact .inl q
    · exact .inr (by rw [upd_ne (ne e)]; exact q)
theorem Rl.outB (h : Rl K (upd B a z) F0 ρ σ H) (hB : B a = none) : Rl K B F0 ρ σ H := by
  obtain ⟨F, A, e0, e1, e2, dm, o, nd, fr⟩ := h
  have up : ∀ {b}, upd B a z b = none → B b = none := fun {b} e => by
    by_cases x : b = a
    · rw [x]; exact hB
    · rwa [upd_ne x] at e
  refine ⟨F, A, e0, e1, fun b u e => e2 b u ?_, fun b u e => (dm b u e).imp id up, o, nd, fun b hb => ⟨(fr b hb).1, up (fr b hb).2⟩⟩
  rw [upd_ne (fun x => by rw [x, hB] at e; cases e)]
  exact e
theorem RlF.here (h : RlF K (upd B a z) F0 F ρ σ H) (hF : F a = none) : H a = some z := by
  obtain ⟨A, e0, e1, e2, dm, o, nd, fr⟩ := h
  rcases e2 a z upd_same with q | ⟨q, _⟩
  · exact q
  · rw [hF] at q; cases q
theorem RlF.stays (h : RlF K (upd B a z) F0 F ρ σ H) (hF : F0 a = none) : F a = none := none_of_ne fun u e => by
  obtain ⟨A, e0, e1, e2, dm, o, nd, fr⟩ := h
  rcases dm a u e with ⟨u', q⟩ | q
  · rw [hF] at q; cases q
  · rw [upd_same] at q; cases q
theorem RlF.sub (h : RlF K B F0 F ρ σ H) : Sub F H := by
  obtain ⟨A, e0, e1, _⟩ := h
  exact e1
theorem RlF.ext (h : RlF K B F0 F ρ σ H) : Same F0 F := by
  obtain ⟨A, e0, e1, _⟩ := h
  exact e0
end
section
variable {X : Cx} {tg it elt : Expr} {scope : Scope} {ρ ρ1 ρF : Rho} {n : Nat} {item : Nat → D} {pos p p2 : Pos} {mk : Addr → HO} {r : V → List V → Hp → VK → Prop}
theorem ev_lenS (own : List (Str × Nat)) (dv : Nat → D) (c : Int) (Ac : Nat → Hp → Addr → HO → Prop) (I : Nat → Rho → Prop) (g : Gd X) (hm : X.mg "len" = none) (hit : Iter X tg it ρ ρ1 n item) (ok : BlkOk X.N X.env.scope scope own)
    (hn : ∀ (H : Hp) (h : Heap), ObjOk X.prog X.w H (h.push (noSet X.w)) h.objs.size (mk h.objs.size)) (hr : InBlk X scope fun Y => MtR Y "set.add" r)
    (a0 : ∀ F D, Ac 0 F D (mk D)) (am : ∀ i F F' D u, Same F F' → Ac i F D u → Ac i F' D u)
    (as : ∀ i F D u y H (Nx : Hp → Prop), i < n → Ac i F D u → H D = some u → Sub F H → Den X.K F y (dv i) → (∀ u', Ac (i + 1) F D u' → Nx (upd H D u')) → r (.ref D) [y] H fun _ H5 => Nx H5)
    (af : ∀ F D u H Q, Ac n F D u → H D = some u → Q (.int c) H → rLenK X.prog X.w [.ref D] H Q)
    (hcl : Clean ρ1 (own.map Prod.snd)) (h0 : I 0 ρ1)
    (hs : ∀ i ρ', i < n → I i ρ' → ∃ ρ2 ρ4, InBlk X scope (fun Y => TgK Y (own.map Prod.snd) tg (item i) ρ' ρ2) ∧ InBlk X scope (fun Y => Ev Y elt ρ2 (.v (dv i)) ρ4) ∧ I (i + 1) (wipeR ρ4 (own.map Prod.snd)))
    (hd : ∀ ρ', I n ρ' → ρ' = ρF) (hfs : ∀ x, foldedSetIterable it X.env x = pure x := by intro _; rfl) (hg : Gl X "len" := by rfl)
    (he : starEach [.SetComp elt [⟨tg, it, [], 0⟩] scope p2] X.env = (false, eval (.SetComp elt [⟨tg, it, [], 0⟩] scope p2) X.env) :: starEach [] X.env := by rfl) :
    Ev X (.Call (.Name "len" p) [.SetComp elt [⟨tg, it, [], 0⟩] scope p2] [] pos) ρ (.v (.int c)) ρF := by
  obtain ⟨wi, hpi, hw⟩ := hit
  refine ev_of (pe_callB cr_lenK hg hm PySem.boot_len (pa_cons (pe_set (own := own) (g := fun v σ H Q => ∀ s H' C cl fp, tG (X.blk s H' scope (compEnvC scope cl C X.env) fp) tg v σ H Q) (te := fun σ H Q => ∀ s H' C cl fp, tE (X.blk s H' scope (compEnvC scope cl C X.env) fp) elt σ H Q) g.calm g.nd hpi ok hn hr
    (fun s H' C cl fp => ⟨fun pins s σ H v u Q I r h => (pg_u _ tg).run pins s σ H v u Q I r (h _ _ _ _ _)⟩) (fun s H' C cl fp => pts_nil) (fun s H' C cl fp => ⟨fun pins s σ H Q I h => (pe_u _ elt).run pins s σ H Q I (h _ _ _ _ _)⟩) hfs) pa_nil he)) fun B F0 st vst σ H Q hl R k => ?_
  refine hw B F0 st vst σ H _ hl R fun J B1 F1 H1 R1 Tn bk Dl hD => ?_
  have R1w := Rl.wipeOn (vs := own.map Prod.snd) R1 hl hcl
  obtain ⟨F, R2, hF, hF1, hB1⟩ := Rl.inB (z := mk Dl) R1w hD
  refine ⟨fun i m H' => m = n - i ∧ i ≤ n ∧ ∃ ρ' F u, I i ρ' ∧ Clean ρ' (own.map Prod.snd) ∧ F Dl = none ∧ Ac i F Dl u ∧ Same F1 F ∧ RlF X.K (upd B1 Dl u) F1 F (st ++ ρ') (vst ++ wipe σ (own.map Prod.snd)) H', ⟨n, by omega, Nat.zero_le _, ρ1, F, _, h0, hcl, hF, a0 _ _, R2.ext, R2⟩, ?_⟩
  rintro i m H' ⟨rfl, hle, ρ', F, u, hI, hcl', hF, hA, hS, R'⟩
  by_cases hlt : i < n
  · obtain ⟨g1, g2⟩ := Tn.go _ F i _ _ H' hS hlt R'.self.rl
    refine .inr ⟨g1, fun H2 => ∃ ρ' F u, I (i + 1) ρ' ∧ Clean ρ' (own.map Prod.snd) ∧ F Dl = none ∧ Ac (i + 1) F Dl u ∧ Same F1 F ∧ RlF X.K (upd B1 Dl u) F1 F (st ++ ρ') (vst ++ wipe σ (own.map Prod.snd)) H2, fun H2 h => ⟨n - (i + 1), by omega, rfl, by omega, h⟩, fun w H2 hy => ?_⟩
    obtain ⟨ρ2, ρ4, ht, hev, hI'⟩ := hs i ρ' hlt hI
    intro s' Hs C cl fp
    refine ht s' Hs C cl fp _ F st vst (wipe σ (own.map Prod.snd)) H2 w _ hl (g2 w H2 hy) fun σ2 H3 R3 wq => ?_
    have wq' : wipe σ2 (own.map Prod.snd) = wipe σ (own.map Prod.snd) := by
      rw [wq]
      have : ∀ (vs us : List Nat), (∀ x ∈ us, x ∈ vs) → wipe (wipe σ us) vs = wipe σ vs := by
        intro vs us
        induction us with
        | nil => intro _; rfl
        | cons u us ih =>
          intro h
          show wipe ((wipe σ us).set u none) vs = _
          rw [wipe_comm (h u (by simp)), ih fun x hx => h x (by simp [hx])]
      exact this _ _ fun x hx => hx
    refine ⟨wq', ?_⟩
    unfold tYes
    dsimp only
    rw [if_pos rfl]
    intro s3 Hs3 C3 cl3 fp3
    refine hev s3 Hs3 C3 cl3 fp3 _ F st vst σ2 H3 _ hl R3 fun y H5 R4 => ?_
    obtain ⟨F5, R5, hy5⟩ := R4.elimF
    have R6 := R'.re R5
    have hF5 := R6.stays hF1
    refine as i F5 Dl u y H5 _ hlt (am _ _ _ _ _ R5.ext hA) (R6.here hF5) R6.sub hy5 fun u' hu' => ?_
    have R7 : Rl X.K (upd B1 Dl u') F5 (st ++ ρ4) (vst ++ σ2) (upd H5 Dl u') := (R6.wrB (z' := u') hF5).self.rl
    obtain ⟨F7, R8⟩ := Rl.forgetN R7 hl (own.map Prod.snd)
    rw [wq'] at R8
    have R9 := (R6.wrB (z' := u') hF5).re R8
    exact ⟨_, F7, u', hI', wipeR_clean _ _, R9.stays hF1, am _ _ _ _ _ R8.ext hu', R9.ext, R9⟩
  · have e : i = n := by omega
    subst e
    have := hd ρ' hI
    subst this
    refine .inl ⟨Tn.stop _ F i _ _ H' hS (Nat.le_refl _) R'.self.rl, af F Dl u H' _ hA (R'.here hF) (k _ H' ?_)⟩
    exact (bk.rl _ _ _ (Rl.outB (Rl.wipeOff R'.rl hl hcl') hB1)).pushS fun _ => .int _
end
end Vl
end
section
set_option maxRecDepth 100000
namespace Vl
open PySem L2
theorem den_key {K : PySem.W.Frag} {F : Hp} {v : V} : ∀ {k : Key}, Den K F v (kD k) → v = kV k
  | .inl i, h => by cases h; rfl
  | .inr x, h => by cases h; rfl
theorem den_keys {K : PySem.W.Frag} {F : Hp} : ∀ {ks : List Key} {vs : List V}, DenL K F vs (ks.map kD) → vs = ks.map kV
  | [], _, .nil => rfl
  | _ :: _, _, .cons h t => by rw [den_key h, den_keys t]; rfl
section
variable {X : Cx} {tg it elt : Expr} {scope : Scope} {ρ ρ1 ρF : Rho} {n : Nat} {item : Nat → D} {pos p p2 : Pos}
/-- len({tuple of ints and texts for ..}) -/
theorem ev_lenT (own : List (Str × Nat)) (key : Nat → List Key) (c : Int) (I : Nat → Rho → Prop) (g : Gd X) (hm : X.mg "len" = none) (hit : Iter X tg it ρ ρ1 n item) (ok : BlkOk X.N X.env.scope scope own) (hz : n < 63)
    (hcl : Clean ρ1 (own.map Prod.snd)) (h0 : I 0 ρ1)
    (hs : ∀ i ρ', i < n → I i ρ' → ∃ ρ2 ρ4, InBlk X scope (fun Y => TgK Y (own.map Prod.snd) tg (item i) ρ' ρ2) ∧ InBlk X scope (fun Y => Ev Y elt ρ2 (.v (.tup ((key i).map kD))) ρ4) ∧ I (i + 1) (wipeR ρ4 (own.map Prod.snd)))
    (hd : ∀ ρ', I n ρ' → ρ' = ρF) (hc : ∀ L : List (List Key), L.Nodup → (∀ k, k ∈ L ↔ ∃ i, i < n ∧ key i = k) → (L.length : Int) = c)
    (hfs : ∀ x, foldedSetIterable it X.env x = pure x := by intro _; rfl) (hg : Gl X "len" := by rfl)
    (he : starEach [.SetComp elt [⟨tg, it, [], 0⟩] scope p2] X.env = (false, eval (.SetComp elt [⟨tg, it, [], 0⟩] scope p2) X.env) :: starEach [] X.env := by rfl) :
    Ev X (.Call (.Name "len" p) [.SetComp elt [⟨tg, it, [], 0⟩] scope p2] [] pos) ρ (.v (.int c)) ρF :=
  ev_lenS own (mk := fun D => KSo X.prog X.w D []) (r := rAddT X.K X.prog X.w) (fun i => .tup ((key i).map kD)) c
    (fun i F D u => ∃ L : KL, u = KSo X.prog X.w D L ∧ L.length ≤ i ∧ (∀ q ∈ L, Den X.K F (.ref q.1) (.tup (q.2.map kD))) ∧ (L.map Prod.snd).Nodup ∧ ∀ k, k ∈ L.map Prod.snd ↔ ∃ j, j < i ∧ key j = k) I g hm hit ok
    (fun H h => kso_ok (kset_new X.w)) (fun s H C cl fp => mt_addT (X := X.blk s H scope (compEnvC scope cl C X.env) fp) g.hu)
    (fun F D => ⟨[], rfl, Nat.le_refl _, by simp, by simp, by simp⟩)
    (fun i F F' D u sm ⟨L, h1, h2, h3, h4, h5⟩ => ⟨L, h1, h2, fun q hq => (h3 q hq).mono sm, h4, h5⟩)
    (fun i F D u y H Nx hi ⟨L, h1, h2, h3, h4, h5⟩ hD sb hy nx => by
      subst h1
      have tupH : ∀ {b : Addr} {ks : List Key}, Den X.K F (.ref b) (.tup (ks.map kD)) → SqT X.K H b (ks.map kV) := fun {b ks} h => by
        cases h with
        | tup h q => rw [den_keys q] at h; exact SqT.of (sb.t h)
      cases hy with
      | @tup b xs _ hq q =>
        have hb : Den X.K F (.ref b) (.tup ((key i).map kD)) := .tup hq q
        refine ⟨D, b, key i, L, rfl, rfl, hD, fun p hp => tupH (h3 p hp), tupH hb, by omega, fun L' o1 o2 => nx _ ?_⟩
        by_cases hk : key i ∈ L.map Prod.snd
        · rw [o1 hk]
          refine ⟨L, rfl, by omega, h3, h4, fun k => ⟨fun z => ?_, fun ⟨j, hj, e⟩ => ?_⟩⟩
          · obtain ⟨j, hj, e⟩ := (h5 k).1 z
            exact ⟨j, by omega, e⟩
          · by_cases e' : j = i
            · rw [← e, e']; exact hk
            · exact (h5 k).2 ⟨j, by omega, e⟩
        · have pm := o2 hk
          have pk := pm.map Prod.snd
          refine ⟨L', rfl, by rw [pm.length_eq]; simp; omega, fun q hq' => ?_, pk.nodup_iff.mpr (List.nodup_cons.mpr ⟨hk, h4⟩), fun k => ?_⟩
          · rcases List.mem_cons.mp (pm.mem_iff.mp hq') with e | e
            · rw [e]; exact hb
            · exact h3 q e
          · rw [pk.mem_iff, List.map_cons, List.mem_cons, h5]
            constructor
            · rintro (e | ⟨j, hj, e⟩)
              · exact ⟨i, by omega, e.symm⟩
              · exact ⟨j, by omega, e⟩
            · rintro ⟨j, hj, e⟩
              by_cases e' : j = i
              · left; rw [← e, e']
              · exact .inr ⟨j, by omega, e⟩)
    (fun F D u H Q ⟨L, h1, h2, h3, h4, h5⟩ hD q => by
      subst h1
      refine ⟨D, rfl, .inl ⟨L, hD, ?_⟩⟩
      have := hc (L.map Prod.snd) h4 h5
      rw [List.length_map] at this
      rw [this]
      exact q) hcl h0 hs hd hfs hg he
/-- len({int for ..}) -/
theorem ev_lenI (own : List (Str × Nat)) (key : Nat → Int) (c : Int) (I : Nat → Rho → Prop) (g : Gd X) (hm : X.mg "len" = none) (hit : Iter X tg it ρ ρ1 n item) (ok : BlkOk X.N X.env.scope scope own) (hz : n < 63)
    (hcl : Clean ρ1 (own.map Prod.snd)) (h0 : I 0 ρ1)
    (hs : ∀ i ρ', i < n → I i ρ' → ∃ ρ2 ρ4, InBlk X scope (fun Y => TgK Y (own.map Prod.snd) tg (item i) ρ' ρ2) ∧ InBlk X scope (fun Y => Ev Y elt ρ2 (.v (.int (key i))) ρ4) ∧ I (i + 1) (wipeR ρ4 (own.map Prod.snd)))
    (hd : ∀ ρ', I n ρ' → ρ' = ρF) (hc : ∀ L : List Int, L.Nodup → (∀ k, k ∈ L ↔ ∃ i, i < n ∧ key i = k) → (L.length : Int) = c)
    (hfs : ∀ x, foldedSetIterable it X.env x = pure x := by intro _; rfl) (hg : Gl X "len" := by rfl)
    (he : starEach [.SetComp elt [⟨tg, it, [], 0⟩] scope p2] X.env = (false, eval (.SetComp elt [⟨tg, it, [], 0⟩] scope p2) X.env) :: starEach [] X.env := by rfl) :
    Ev X (.Call (.Name "len" p) [.SetComp elt [⟨tg, it, [], 0⟩] scope p2] [] pos) ρ (.v (.int c)) ρF :=
  ev_lenS own (mk := fun D => SetO X.w D (fun _ => false) 0) (r := rSAdd X.w) (fun i => .int (key i)) c
    (fun i F D u => ∃ (S : Int → Bool) (L : List Int), u = SetO X.w D S L.length ∧ L.length ≤ i ∧ L.Nodup ∧ (∀ k, S k = true ↔ k ∈ L) ∧ ∀ k, k ∈ L ↔ ∃ j, j < i ∧ key j = k) I g hm hit ok
    (fun H h => setO_new (setR_fresh X.w)) (fun s H C cl fp => mt_sadd (X := X.blk s H scope (compEnvC scope cl C X.env) fp))
    (fun F D => ⟨_, [], rfl, Nat.le_refl _, by simp, by simp, by simp⟩)
    (fun i F F' D u sm h => h)
    (fun i F D u y H Nx hi ⟨S, L, h1, h2, h3, h4, h5⟩ hD sb hy nx => by
      subst h1
      cases hy
      have sc : (64 : Nat) < scanBound := by decide
      refine ⟨D, key i, S, L.length, rfl, rfl, hD, by omega, nx _ ?_⟩
      by_cases hk : key i ∈ L
      · rw [if_pos ((h4 _).2 hk)]
        refine ⟨_, L, rfl, by omega, h3, fun k => ?_, fun k => ⟨fun z => ?_, fun ⟨j, hj, e⟩ => ?_⟩⟩
        · simp only [Bool.or_eq_true, decide_eq_true_eq, h4]
          exact ⟨fun z => z.elim id fun e => e ▸ hk, .inl⟩
        · obtain ⟨j, hj, e⟩ := (h5 k).1 z
          exact ⟨j, by omega, e⟩
        · by_cases e' : j = i
          · rw [← e, e']; exact hk
          · exact (h5 k).2 ⟨j, by omega, e⟩
      · rw [if_neg fun z => hk ((h4 _).1 z)]
        refine ⟨_, key i :: L, rfl, by simp; omega, List.nodup_cons.mpr ⟨hk, h3⟩, fun k => ?_, fun k => ?_⟩
        · simp only [Bool.or_eq_true, decide_eq_true_eq, h4, List.mem_cons]
          exact Or.comm
        · rw [List.mem_cons, h5]
          constructor
          · rintro (e | ⟨j, hj, e⟩)
            · exact ⟨i, by omega, e.symm⟩
            · exact ⟨j, by omega, e⟩
          · rintro ⟨j, hj, e⟩
            by_cases e' : j = i
            · left; rw [← e, e']
            · exact .inr ⟨j, by omega, e⟩)
    (fun F D u H Q ⟨S, L, h1, h2, h3, h4, h5⟩ hD q => by
      subst h1
      refine ⟨D, rfl, .inr ⟨S, L.length, hD, by omega, ?_⟩⟩
      rw [hc L h3 h5]
      exact q) hcl h0 hs hd hfs hg he
end
end Vl
end
section
set_option maxRecDepth 100000
set_option maxHeartbeats 2000000
/-! sorted of tuples whose items are ints and texts, each place of one kind -/
namespace Vl
open PySem PyProof.Rows L2 SrtO
abbrev IL := List (Int ⊕ List Nat)
def kI : Key → Int ⊕ List Nat
  | .inl i => .inl i
  | .inr x => .inr x.cps.toList
/-- a stands before b -/
def ltK (a b : List Key) : Bool := lexLt itemOrd (a.map kI) (b.map kI)
def ShK (sh : Nat → Bool) (i : Nat) (k : List Key) : Prop := ∀ (j : Nat) (y : Key), k[j]? = some y → y.isRight = sh (i + j)
theorem lex_asym {O : KeyOrd} {a b : List O.α} (h : lexLt O a b = true) : lexLt O b a = false := by
  cases e : lexLt O b a with
  | false => rfl
  | true =>
    have := lex_trans a b a h e
    rw [lex_irrefl] at this
    cases this
theorem lex_down {O : KeyOrd} {a b c : List O.α} (h1 : lexLt O b a = false) (h2 : lexLt O c b = false) : lexLt O c a = false := by
  cases e : lexLt O c a with
  | false => rfl
  | true =>
    rcases lex_negTrans c b a e with z | z
    · rw [h2] at z; cases z
    · rw [h1] at z; cases z
theorem swo_of (f : Value → IL) : Swo fun v u => lexLt itemOrd (f v) (f u) := ⟨fun _ _ => lex_asym, fun _ _ _ => lex_down⟩
/-- what stands at v -/
def TupAt (h : Heap) (sh : Nat → Bool) (v : Value) (l : IL) : Prop := ∃ a o xs n f, v = .ref a ∧ h.get? a = some o ∧ o.cls = .type "tuple" ∧ o.data = .seq xs n ∧ xs[0]? = some f ∧ tupItems sh 0 xs.toList = some l
theorem TupAt.key {h : Heap} {sh : Nat → Bool} {v : Value} {l : IL} (x : TupAt h sh v l) : tupKey h sh v = some l := by
  obtain ⟨a, o, xs, n, f, rfl, ho, hc, hd, hf, hi⟩ := x
  simp only [tupKey, ho, hd, hi]
theorem TupAt.keep {h h' : Heap} {sh : Nat → Bool} {v : Value} {l : IL} (x : TupAt h sh v l) (k : ∀ b o, h.get? b = some o → o.cls = .type "tuple" → h'.get? b = some o) : TupAt h' sh v l := by
  obtain ⟨a, o, xs, n, f, e, ho, hc, hd, hf, hi⟩ := x
  exact ⟨a, o, xs, n, f, e, k a o ho hc, hc, hd, hf, hi⟩
theorem TupAt.of {h : Heap} {sh : Nat → Bool} {v : Value} {l : IL} (x : TupAt h sh v l) : ∃ f, TupOf h sh v f := by
  obtain ⟨a, o, xs, n, f, e, ho, hc, hd, hf, hi⟩ := x
  refine ⟨f, a, o, xs, n, e, ho, hc, hd, hf, ?_⟩
  have hx : ∃ r, xs.toList = f :: r := by
    rw [← Array.getElem?_toList] at hf
    cases hx : xs.toList with
    | nil => rw [hx] at hf; cases hf
    | cons g r => rw [hx] at hf; cases hf; exact ⟨r, rfl⟩
  obtain ⟨r, hx⟩ := hx
  rw [hx] at hi
  constructor <;> intro hs
  · obtain ⟨n, t, _, e, _⟩ := tupItems_int hs hi
    exact ⟨n, t, e⟩
  · obtain ⟨x, t, _, e, _⟩ := tupItems_str hs hi
    exact ⟨x, t, e⟩
theorem items_of {sh : Nat → Bool} : ∀ {k : List Key} {us : List Value} (i : Nat), Vals (k.map kV) us → ShK sh i k → tupItems sh i us = some (k.map kI)
  | [], _, _, .nil, _ => by simp [tupItems]
  | .inl n :: k, _ :: us, i, .cons r t, s => by
    obtain ⟨tk, rfl⟩ := r
    have h0 : sh i = false := (s 0 _ rfl).symm
    have ih := items_of (i + 1) t fun j y e => by
      have := s (j + 1) y (by simpa using e)
      rw [this]; congr 1; omega
    simp [tupItems, h0, ih, kI]
  | .inr n :: k, _ :: us, i, .cons r t, s => by
    obtain ⟨tk, rfl⟩ := r
    have h0 : sh i = true := (s 0 _ rfl).symm
    have ih := items_of (i + 1) t fun j y e => by
      have := s (j + 1) y (by simpa using e)
      rw [this]; congr 1; omega
    simp [tupItems, h0, ih, kI]
theorem tups_of {h : Heap} {sh : Nat → Bool} : ∀ {vs : List Value}, (∀ v ∈ vs, ∃ l, TupAt h sh v l) → ∃ fs, TupsOf h sh vs fs ∧ fs.length = vs.length
  | [], _ => ⟨[], .nil, rfl⟩
  | v :: vs, hv => by
    obtain ⟨l, x⟩ := hv v (by simp)
    obtain ⟨f, y⟩ := x.of
    obtain ⟨fs, z, e⟩ := tups_of (vs := vs) fun u hu => hv u (List.mem_cons_of_mem _ hu)
    exact ⟨f :: fs, .cons y z, by simp [e]⟩
section
variable {P : Program} {w : World} {A : Around} {s : Shared}
theorem mixed_sortable {a : Addr} {sh : Nat → Bool} {vs : List Value} {f : Value → IL} (h0 : 0 < vs.length) (hp : ∀ v ∈ vs, TupAt s.heap sh v (f v)) (ha : ∀ o, s.heap.get? a = some o → o.cls ≠ .type "tuple") :
    SortableO P w A s a vs fun v u => lexLt itemOrd (f v) (f u) := by
  intro h' keep
  have hp' : ∀ v ∈ vs, TupAt h' sh v (f v) := fun v hv => (hp v hv).keep fun b o e c => keep b o (fun z => by subst z; exact ha o e c) e
  obtain ⟨fs, ht, hl⟩ := tups_of fun v hv => ⟨_, hp' v hv⟩
  refine ⟨tuples' true, fun Q E hq => tup_kind (s := { s with heap := h' }) (by omega) ht hq, fun p q hm hm' => ?_⟩
  exact tup_ltAt (s := { s with heap := h' }) true A _ p.1 q.1 (f p.1) (f q.1) (hp' _ hm).key (hp' _ hm').key ⟨rfl, rfl⟩
end
section
variable {X : Cx}
/-- sorted(xs), xs a list of such tuples: κ says of each what stands in it -/
def rSortM (K : PySem.W.Frag) (sh : Nat → Bool) : List V → Hp → VK → Prop := fun vs H Q => ∃ (a : Addr) (xs : List V) (κ : V → List Key), vs = [V.ref a] ∧ SqL K H a xs ∧ (∀ x ∈ xs, ∃ t, x = .ref t ∧ SqT K H t ((κ x).map kV) ∧ ShK sh 0 (κ x) ∧ κ x ≠ []) ∧
  ∀ (ys : List V) (p : Addr), ys.Perm xs → ys.Pairwise (fun x y => ltK (κ y) (κ x) = false) → H p = none → Q (.ref p) (upd H p (.lst ys))
theorem cr_sortM (sh : Nat → Bool) : CallR X (.builtin "sorted") (rSortM X.K sh) := by
  rintro pins s σ H vs us Q I r ⟨a, xs, κ, rfl, hs, hx, q⟩
  obtain ⟨its, rv, hl, hz⟩ := I.list hs
  rw [Vals.ref1 r]
  obtain ⟨e1, e2⟩ := bkV_refs rv fun x m => let ⟨t, e, _⟩ := hx x m; ⟨t, e⟩
  have tup : ∀ v ∈ its, TupAt s.heap sh v ((κ (bkV v)).map kI) := fun v hv => by
    obtain ⟨t, rfl⟩ := e2 v hv
    obtain ⟨t', e, ht, hsh, hne⟩ := hx (V.ref t) (by rw [e1]; exact List.mem_map.mpr ⟨_, hv, rfl⟩)
    cases e
    obtain ⟨us, ru, ⟨o, ho, hc, n, hd⟩, _⟩ := I.tuple ht
    cases us with
    | nil =>
      cases hk : κ (V.ref t) with
      | nil => exact absurd hk hne
      | cons y l => rw [hk] at ru; cases ru
    | cons u us => exact ⟨t, o, (u :: us).toArray, n, u, rfl, ho, hc, hd, rfl, items_of 0 ru hsh⟩
  refine sorted_ord (ltv := fun v u => lexLt itemOrd ((κ (bkV v)).map kI) ((κ (bkV u)).map kI)) (swo_of fun v => (κ (bkV v)).map kI) (vs := its) hl.isList ?_ (fun h2 h₁ b hb kk => ?_) fun out h1 h2 => ?_
  · rw [← rv.length]; exact hz
  · refine mixed_sortable (s := { s with heap := h₁ }) (f := fun v => (κ (bkV v)).map kI) (by omega) (fun v hv => (tup v hv).keep fun c o e _ => (kk c o e).2) fun o e c => ?_
    rw [hb] at e
    cases e
    exact absurd (Value.type.inj c) (by decide)
  · obtain ⟨ep, he'⟩ := PyProof.Rows.sortedAll_at s.heap its out.toArray
    have h3 : ∀ u ∈ out, ∃ a, u = Value.ref a := fun u hu => e2 u (h2.perm.mem_iff.mp hu)
    have hp : (out.map bkV).Perm xs := by
      rw [e1]
      exact h2.perm.map bkV
    refine ⟨.ref _, upd H (s.heap.objs.size + 1) (.lst (out.map bkV)), I.laid (t' := s.toks) (fun _ _ => PyProof.Rows.sortedAll_old) (Nat.le_succ _) ⟨by rw [hp.length_eq]; exact hz, out, ep, bkV_vals h3, he'⟩, rfl, q _ _ hp ?_ (I.hok.fresh (Nat.le_succ _))⟩
    exact List.pairwise_map.mpr h1
end
end Vl
end
section
set_option maxRecDepth 100000
namespace Vl
open PySem L2
/-- a tuple of ints and texts -/
def tK (k : List Key) : D := .tup (k.map kD)
theorem kV_inj : ∀ {x y : Key}, kV x = kV y → x = y
  | .inl _, .inl _, h => by cases h; rfl
  | .inr _, .inr _, h => by cases h; rfl
  | .inl _, .inr _, h => by cases h
  | .inr _, .inl _, h => by cases h
theorem kVs_inj : ∀ {x y : List Key}, x.map kV = y.map kV → x = y
  | [], [], _ => rfl
  | [], _ :: _, h => by simp at h
  | _ :: _, [], h => by simp at h
  | a :: x, b :: y, h => by
    rw [List.map_cons, List.map_cons, List.cons.injEq] at h
    rw [kV_inj h.1, kVs_inj h.2]
theorem den_tK {K : PySem.W.Frag} {F : Hp} {v : V} {k : List Key} (h : Den K F v (tK k)) : ∃ t, v = .ref t ∧ F t = some (.tup (k.map kV)) := by
  cases h with
  | tup hq q => exact ⟨_, rfl, by rw [den_keys q] at hq; exact hq⟩
theorem den_tK_inj {K : PySem.W.Frag} {F : Hp} {v : V} {k k' : List Key} (h : Den K F v (tK k)) (h' : Den K F v (tK k')) : k = k' := by
  obtain ⟨t, rfl, e⟩ := den_tK h
  obtain ⟨t', e0, e'⟩ := den_tK h'
  cases e0
  rw [e] at e'
  injection e' with e'
  injection e' with e'
  exact kVs_inj e'
open Classical in
noncomputable def keyAt (K : PySem.W.Frag) (F : Hp) (v : V) : List Key := if h : ∃ k, Den K F v (tK k) then h.choose else []
theorem keyAt_eq {K : PySem.W.Frag} {F : Hp} {v : V} {k : List Key} (h : Den K F v (tK k)) : keyAt K F v = k := by
  have hx : ∃ k, Den K F v (tK k) := ⟨k, h⟩
  unfold keyAt
  rw [dif_pos hx]
  exact den_tK_inj hx.choose_spec h
theorem keysAt {K : PySem.W.Frag} {F : Hp} : ∀ {xs : List V} {ks : List (List Key)}, DenL K F xs (ks.map tK) → xs.map (keyAt K F) = ks ∧ ∀ x ∈ xs, Den K F x (tK (keyAt K F x))
  | [], [], _ => ⟨rfl, fun x hx => by cases hx⟩
  | x :: xs, k :: ks, h => by
    cases h with
    | cons h1 h2 =>
      obtain ⟨e1, e2⟩ := keysAt h2
      have e0 := keyAt_eq h1
      refine ⟨by rw [List.map_cons, e0, e1], fun y hy => ?_⟩
      rcases List.mem_cons.mp hy with e | hy
      · subst e; rw [e0]; exact h1
      · exact e2 y hy
  | [], _ :: _, h => by cases h
  | _ :: _, [], h => by cases h
theorem den_all {K : PySem.W.Frag} {F : Hp} : ∀ {ys : List V}, (∀ x ∈ ys, Den K F x (tK (keyAt K F x))) → DenL K F ys ((ys.map (keyAt K F)).map tK)
  | [], _ => .nil
  | y :: ys, h => .cons (h y (by simp)) (den_all fun x hx => h x (by simp [hx]))
theorem kI_inj : ∀ {x y : Key}, kI x = kI y → x = y
  | .inl _, .inl _, h => by cases h; rfl
  | .inr a, .inr b, h => by
    injection h with h
    cases a; cases b
    simp only [Array.toList_inj] at h
    rw [h]
  | .inl _, .inr _, h => by cases h
  | .inr _, .inl _, h => by cases h
theorem kIs_inj : ∀ {x y : List Key}, x.map kI = y.map kI → x = y
  | [], [], _ => rfl
  | [], _ :: _, h => by simp at h
  | _ :: _, [], h => by simp at h
  | a :: x, b :: y, h => by
    rw [List.map_cons, List.map_cons, List.cons.injEq] at h
    rw [kI_inj h.1, kIs_inj h.2]
theorem ltK_total {a b : List Key} (h1 : ltK a b = false) (h2 : ltK b a = false) : a = b := kIs_inj (PyProof.Rows.lex_total _ _ h1 h2)
section
variable {X : Cx} {e : Expr} {ρ ρ1 : Rho} {r : T} {p pos : Pos}
end
end Vl
end
section
set_option maxRecDepth 100000
namespace Vl
open PySem L2
theorem upd_self {H : Hp} {a : Addr} {o : HO} (h : H a = some o) : upd H a o = H := by
  funext b
  by_cases e : b = a
  · subst e; rw [upd_same, h]
  · rw [upd_ne e]
section
variable {K : PySem.W.Frag} {B F0 F F' H H' : Hp} {ρ ρ' st : Rho} {σ σ' vst : St} {v y : V} {d : D} {t t1 r u u' : T} {i j : Nat} {ts ts' : List T} {us : List T} {ws : List V}
/-- the part j, taken out -/
theorem OwnL.split {b : Addr} : ∀ {xs : List V} {ts : List T} {A : List Addr} (j : Nat), OwnL K F H xs ts A → ts[j]? = some u → xs[j]? = some (.ref b) → ∃ B1 B2, Own K F H (.ref b) u B1 ∧ OwnL K F H xs (ts.set j (.v (.ref b))) B2 ∧ A.Perm (B1 ++ B2)
  | _, _, _, _, .nil, e, _ => by simp at e
  | _, _, _, 0, .cons (A := A1) (B := A2) h q, e, e2 => by
    simp at e e2
    subst e e2
    exact ⟨A1, A2, h, .cons (A := []) (.v (.ref b)) q, List.Perm.refl _⟩
  | _, _, _, j + 1, .cons (A := A1) (B := A2) h q, e, e2 => by
    obtain ⟨B1, B2, o1, o2, p⟩ := OwnL.split j q (by simpa using e) (by simpa using e2)
    refine ⟨B1, A1 ++ B2, o1, .cons h o2, ?_⟩
    have p1 : (A1 ++ A2).Perm (A1 ++ (B1 ++ B2)) := p.append_left A1
    refine p1.trans ?_
    rw [← List.append_assoc, ← List.append_assoc]
    exact List.Perm.append_right B2 List.perm_append_comm
theorem OwnL.join {b : Addr} : ∀ {xs : List V} {ts : List T} {A C : List Addr} (j : Nat), OwnL K F H xs ts A → ts[j]? = some (.v (.ref b)) → Own K F H (.ref b) u C → ∃ A', OwnL K F H xs (ts.set j u) A' ∧ A'.Perm (A ++ C)
  | _, _, _, _, _, .nil, e, _ => by simp at e
  | _, _, _, C, 0, .cons (A := A1) (B := A2) h q, e, o => by
    simp at e
    subst e
    cases h with
    | v hd => cases hd; exact ⟨C ++ A2, .cons o q, List.perm_append_comm⟩
  | _, _, _, C, j + 1, .cons (A := A1) (B := A2) h q, e, o => by
    obtain ⟨A', o', p⟩ := OwnL.join j q (by simpa using e) o
    exact ⟨A1 ++ A', .cons h o', by rw [List.append_assoc]; exact p.append_left A1⟩
/-- a part of an owned list put back -/
theorem Rl.join {b : Addr} (h : Rl K B F0 (some (.at_ b u) :: ρ) (some v :: σ) H) (hi : ρ[i]? = some (some t1)) (ht : t1 = .lst ts ∨ ∃ a, t1 = .at_ a (.lst ts)) (hj : ts[j]? = some (.v (.ref b))) :
    Rl K B F0 (ρ.set i (some (reT t1 (.lst (ts.set j u))))) σ H := by
  have h' : Rl K B F0 ([T.at_ b u].map some ++ ρ) ([v].map some ++ σ) H := h
  obtain ⟨a, xs, e1, e2, e3, _, k⟩ := h'.write (i := i) rfl hi ht
  have := k xs (ts.set j u) fun F H' A C o1 o2 => by
    cases o2 with
    | cons o3 o4 =>
      cases o4
      cases o3 with
      | at_ o3 =>
        obtain ⟨A', o5, p⟩ := o1.join j hj o3
        exact ⟨A', o5, by simpa using Less.of_perm p⟩
  rwa [upd_self e2] at this
/-- a part of an owned list taken out: it stands at the head -/
theorem Rl.split (h : Rl K B F0 ρ σ H) (hi : ρ[i]? = some (some t1)) (ht : t1 = .lst ts ∨ ∃ a, t1 = .at_ a (.lst ts)) (hj : ts[j]? = some u) (hu : ∀ d, u ≠ .v d) (hu2 : ∀ a t, u ≠ .at_ a t) :
    ∃ a b xs, σ[i]? = some (some (.ref a)) ∧ H a = some (.lst xs) ∧ xs.length = ts.length ∧ xs[j]? = some (.ref b) ∧ Rl K B F0 (some (.at_ b u) :: ρ.set i (some (reT t1 (.lst (ts.set j (.v (.ref b))))))) (some (.ref b) :: σ) H := by
  obtain ⟨F, A, e0, e1, e2, dm, o, nd, fr⟩ := h
  obtain ⟨v, A1, A2, A3, e3, rfl, o3, k, _⟩ := o.at hi
  have key : ∀ {a : Addr} {A2 : List Addr}, Own K F H (.ref a) (.lst ts) A2 → ∃ b xs B1 B2, H a = some (.lst xs) ∧ xs.length = ts.length ∧ xs[j]? = some (.ref b) ∧ Own K F H (.ref b) u B1 ∧ Own K F H (.ref a) (.lst (ts.set j (.v (.ref b)))) B2 ∧ A2.Perm (B1 ++ B2) := fun {a A2} o => by
    cases o with
    | @lst _ xs _ A' hH q =>
      obtain ⟨x, B, hx, ox, _⟩ := q.getI hj
      obtain ⟨b, rfl⟩ : ∃ b, x = .ref b := by
        cases ox with
        | v hd => exact absurd rfl (hu _)
        | at_ => exact absurd rfl (hu2 _ _)
        | lst => exact ⟨_, rfl⟩
        | dic => exact ⟨_, rfl⟩
        | dit => exact ⟨_, rfl⟩
        | obj => exact ⟨_, rfl⟩
      obtain ⟨B1, B2, o1, o2, p⟩ := q.split j hj hx
      refine ⟨b, xs, B1, a :: B2, hH, q.len, hx, o1, .lst hH o2, ?_⟩
      have p1 : (a :: A').Perm (a :: (B1 ++ B2)) := p.cons a
      exact p1.trans List.perm_middle.symm
  have fin : ∀ {a b : Addr} {xs : List V} {t' : T} {B1 B2 : List Addr}, v = .ref a → H a = some (.lst xs) → xs.length = ts.length → xs[j]? = some (.ref b) → Own K F H (.ref b) u B1 → Own K F H v t' B2 → A2.Perm (B1 ++ B2) → t' = reT t1 (.lst (ts.set j (.v (.ref b)))) →
      ∃ a b xs, σ[i]? = some (some (.ref a)) ∧ H a = some (.lst xs) ∧ xs.length = ts.length ∧ xs[j]? = some (.ref b) ∧ Rl K B F0 (some (.at_ b u) :: ρ.set i (some (reT t1 (.lst (ts.set j (.v (.ref b))))))) (some (.ref b) :: σ) H := by
    intro a b xs t' B1 B2 ev hH hl hx o1 o2 p et
    subst ev et
    have oS := k F H _ _ B2 (Same.refl _) (fun _ _ _ e => e) o2
    have es : σ.set i (some (.ref a)) = σ := set_self e3
    rw [es] at oS
    have pm : (B1 ++ (A1 ++ (B2 ++ A3))).Perm (A1 ++ (A2 ++ A3)) := by
      have q1 : (A2 ++ A3).Perm (B1 ++ B2 ++ A3) := p.append_right A3
      have q2 : (A1 ++ (A2 ++ A3)).Perm (A1 ++ (B1 ++ B2 ++ A3)) := q1.append_left A1
      refine List.Perm.symm (q2.trans ?_)
      have q3 : (A1 ++ (B1 ++ B2 ++ A3)) = (A1 ++ B1) ++ (B2 ++ A3) := by simp [List.append_assoc]
      have q4 : (B1 ++ (A1 ++ (B2 ++ A3))) = (B1 ++ A1) ++ (B2 ++ A3) := by simp [List.append_assoc]
      rw [q3, q4]
      exact List.Perm.append_right (B2 ++ A3) List.perm_append_comm
    exact ⟨a, b, xs, e3, hH, hl, hx, F, B1 ++ (A1 ++ (B2 ++ A3)), e0, e1, e2, dm, OwnS.cons (.at_ o1) oS, pm.nodup_iff.mpr nd, fun c hc => fr c (pm.mem_iff.mp hc)⟩
  rcases ht with rfl | ⟨a, rfl⟩
  · cases o3 with
    | lst h q =>
      obtain ⟨b, xs, B1, B2, z1, z2, z3, z4, z5, z6⟩ := key (.lst h q)
      exact fin rfl z1 z2 z3 z4 z5 z6 rfl
  · cases o3 with
    | at_ o3 =>
      obtain ⟨b, xs, B1, B2, z1, z2, z3, z4, z5, z6⟩ := key o3
      exact fin rfl z1 z2 z3 z4 (.at_ z5) z6 rfl
end
section
variable {X : Cx} {e a b c o : Expr} {es rest : List Expr} {sts : List Stmt} {st : Stmt} {ρ ρ' ρ1 ρ2 ρ3 : Rho} {d x y z : D} {r t t1 u : T} {ts : List T} {ds : List D} {pos p p2 apos cpos : Pos} {i j k : Nat} {bo bo' : Bool} {f xa : Str} {R : Pr} {xn : Xn} {Z : Outs}
end
end Vl
end
section
set_option maxRecDepth 100000
namespace Vl
open PySem L2
/-! ### tables with keys -/
section
variable {α β : Type}
def kix (kvs : List (Key × α)) (k : Key) : Option Nat := kvs.findIdx? fun p => decide (p.1 = k)
def kget (kvs : List (Key × α)) (k : Key) : Option α := (kvs.find? fun p => decide (p.1 = k)).map (·.2)
def kput (kvs : List (Key × α)) (k : Key) (x : α) : List (Key × α) := match kix kvs k with
  | some j => kvs.set j (k, x)
  | none => kvs ++ [(k, x)]
theorem kix_keys : ∀ {xs : List (Key × α)} {ys : List (Key × β)} {k : Key}, xs.map (·.1) = ys.map (·.1) → kix xs k = kix ys k
  | [], [], _, _ => rfl
  | [], _ :: _, _, h => by simp at h
  | _ :: _, [], _, h => by simp at h
  | p :: xs, q :: ys, k, h => by
    rw [List.map_cons, List.map_cons, List.cons.injEq] at h
    have ih := kix_keys (k := k) h.2
    unfold kix at ih ⊢
    rw [List.findIdx?_cons, List.findIdx?_cons, h.1, ih]
theorem kget_ix : ∀ {xs : List (Key × α)} {k : Key}, kget xs k = (kix xs k).bind fun j => (xs.map (·.2))[j]?
  | [], _ => rfl
  | p :: xs, k => by
    have ih := kget_ix (xs := xs) (k := k)
    unfold kget kix at ih ⊢
    rw [List.find?_cons, List.findIdx?_cons]
    by_cases e : p.1 = k
    · simp [e]
    · simp only [e, decide_false]
      rw [ih]
      cases List.findIdx? (fun p => decide (p.1 = k)) xs <;> simp
theorem kix_some {xs : List (Key × α)} {k : Key} {j : Nat} (h : kix xs k = some j) : j < xs.length ∧ (xs.map (·.1))[j]? = some k := by
  unfold kix at h
  obtain ⟨hj, h1, _⟩ := List.findIdx?_eq_some_iff_getElem.mp h
  refine ⟨hj, ?_⟩
  rw [List.getElem?_map, List.getElem?_eq_getElem hj]
  simpa using h1
theorem kput_len {xs : List (Key × α)} {k : Key} {x : α} : (kput xs k x).length ≤ xs.length + 1 := by
  unfold kput
  split <;> simp
theorem kput_keys {xs : List (Key × α)} {ys : List (Key × β)} {k : Key} {x : α} {y : β} (h : xs.map (·.1) = ys.map (·.1)) : (kput xs k x).map (·.1) = (kput ys k y).map (·.1) := by
  unfold kput
  rw [kix_keys h]
  cases e : kix ys k with
  | none => simp [h]
  | some j =>
    simp only [List.map_set, h]
end
theorem val_get {xs : List (Key × V)} {k : Key} : valV xs k = kget xs k := rfl
theorem put_eq : ∀ {xs : List (Key × V)} {k : Key} {v : V}, (xs.map (·.1)).Nodup → putK xs k v = kput xs k v
  | xs, k, v, nd => by
    unfold putK kput
    have hany : (xs.any fun kv => decide (kv.1 = k)) = (kix xs k).isSome := by
      unfold kix
      rw [List.findIdx?_isSome]
    rw [hany]
    cases e : kix xs k with
    | none => simp
    | some j =>
      simp only [Option.isSome_some, if_true]
      obtain ⟨hj, hk⟩ := kix_some e
      refine List.ext_getElem? fun i => ?_
      rw [List.getElem?_map, List.getElem?_set]
      by_cases hi : j = i
      · subst hi
        rw [List.getElem?_map] at hk
        rw [if_pos rfl, if_pos hj]
        cases hx : xs[j]? with
        | none => rw [hx] at hk; simp at hk
        | some p =>
          rw [hx] at hk
          simp at hk
          simp [hk]
      · rw [if_neg hi]
        cases hx : xs[i]? with
        | none => rfl
        | some p =>
          have hne : ¬ p.1 = k := fun z => by
            have h1 : (xs.map (·.1))[i]? = some k := by rw [List.getElem?_map, hx]; simp [z]
            have hl : i < (xs.map (·.1)).length := (List.getElem?_eq_some_iff.mp h1).1
            exact hi ((List.getElem?_inj (by simpa using hj) nd).mp (hk.trans h1.symm))
          simp [hne]
theorem kget_some {α β : Type} {xs : List (Key × α)} {ds : List (Key × β)} {k : Key} (hk : xs.map (·.1) = ds.map (·.1)) : (kget xs k).isSome = (kget ds k).isSome := by
  have hl : xs.length = ds.length := by have := congrArg List.length hk; simpa using this
  rw [kget_ix, kget_ix, kix_keys (k := k) hk]
  cases e : kix ds k with
  | none => rfl
  | some j =>
    have h := (kix_some e).1
    have h2 : j < xs.length := by omega
    simp [h, h2]
theorem den_get {K : PySem.W.Frag} {F : Hp} {xs : List (Key × V)} {ds : List (Key × D)} {k : Key} (hk : xs.map (·.1) = ds.map (·.1)) (q : DenL K F (xs.map (·.2)) (ds.map (·.2))) :
    (kget ds k = none → kget xs k = none) ∧ ∀ d, kget ds k = some d → ∃ v, kget xs k = some v ∧ Den K F v d := by
  rw [kget_ix, kget_ix, kix_keys (k := k) hk]
  cases e : kix ds k with
  | none => exact ⟨fun _ => rfl, fun d h => by cases h⟩
  | some j =>
    refine ⟨fun h => ?_, fun d h => q.get h⟩
    have hl := (kix_some e).1
    exfalso
    simp only [Option.bind_some, List.getElem?_map, List.getElem?_eq_getElem hl] at h
    cases h
section
variable {K : PySem.W.Frag} {B F0 F F' H H' : Hp} {ρ ρ' st : Rho} {σ σ' vst : St} {v y : V} {d : D} {t t1 r u u' : T} {i j : Nat} {kvs : List (Key × T)}
theorem OwnL.kput {xs : List (Key × V)} {k : Key} {A C : List Addr} (h : OwnL K F H (xs.map (·.2)) (kvs.map (·.2)) A) (hk : xs.map (·.1) = kvs.map (·.1)) (o : Own K F H y u C) : ∃ A', OwnL K F H ((kput xs k y).map (·.2)) ((kput kvs k u).map (·.2)) A' ∧ Less A' (A ++ C) := by
  unfold Vl.kput
  rw [kix_keys (k := k) hk]
  cases kix kvs k with
  | none =>
    simp only [List.map_append, List.map_cons, List.map_nil]
    exact ⟨A ++ (C ++ []), h.append (.cons o .nil), by simpa using Less.refl _⟩
  | some j =>
    simp only [List.map_set]
    exact h.set o j
/-- d[k] = y, d the owned dict of slot i -/
theorem Rl.putD {k : Key} (h : Rl K B F0 (some u :: ρ) (some y :: σ) H) (hi : ρ[i]? = some (some t1)) (ht : t1 = .dic kvs ∨ ∃ a, t1 = .at_ a (.dic kvs)) (nd : (kvs.map (·.1)).Nodup) :
    ∃ (a : Addr) (xs : List (Key × V)), σ[i]? = some (some (.ref a)) ∧ H a = some (.dK xs) ∧ xs.length = kvs.length ∧ Rl K B F0 (ρ.set i (some (reT t1 (.dic (kput kvs k u))))) σ (upd H a (.dK (putK xs k y))) := by
  have h' : Rl K B F0 ([u].map some ++ ρ) ([y].map some ++ σ) H := h
  obtain ⟨a, o, vs, e1, e2, ⟨xs, e3, e4, e5⟩, _, _, k'⟩ := h'.writeG (fun o vs => ∃ xs : List (Key × V), o = .dK xs ∧ xs.map (·.1) = kvs.map (·.1) ∧ vs = xs.map (·.2)) (i := i) (t := .dic kvs) (ts := kvs.map (·.2)) rfl hi ht (fun _ _ e => by cases e) (fun {F H v A} ow => by
    cases ow with
    | dic z1 z2 z3 => exact ⟨_, _, _, _, rfl, rfl, z1, z3, _, rfl, z2, rfl⟩)
  subst e3 e5
  refine ⟨a, xs, e1, e2, by have := congrArg List.length e4; simpa using this, ?_⟩
  rw [put_eq (by rw [e4]; exact nd)]
  exact k' _ ((kput xs k y).map (·.2)) ((kput kvs k u).map (·.2)) (.dic (kput kvs k u)) (fun F H' A' e o => .dic e (kput_keys e4) o) fun F H' A C o1 o2 => by
    cases o2 with
    | cons o3 o4 =>
      cases o4
      obtain ⟨A', o5, l⟩ := o1.kput (k := k) e4 o3
      exact ⟨A', o5, by simpa using l⟩
theorem Own.dicI {A : List Addr} (h : Own K F H v (.dic kvs) A) : ∃ a ks A', v = .ref a ∧ A = a :: A' ∧ H a = some (.dK ks) ∧ ks.map (·.1) = kvs.map (·.1) ∧ OwnL K F H (ks.map (·.2)) (kvs.map (·.2)) A' := by
  cases h with
  | dic z1 z2 z3 => exact ⟨_, _, _, rfl, rfl, z1, z2, z3⟩
/-- the owned dict of slot i, looked into -/
theorem Rl.lookD (h : Rl K B F0 (st ++ ρ) (vst ++ σ) H) (hl : vst.length = st.length) (hi : ρ[i]? = some (some t1)) (ht : t1 = .dic kvs ∨ ∃ a, t1 = .at_ a (.dic kvs)) :
    ∃ (a : Addr) (xs : List (Key × V)), σ[i]? = some (some (.ref a)) ∧ H a = some (.dK xs) ∧ xs.map (·.1) = kvs.map (·.1) ∧ ∀ k d, kget kvs k = some (.v d) → ∃ w, kget xs k = some w ∧ Rl K B F0 (some (.v d) :: (st ++ ρ)) (some w :: (vst ++ σ)) H := by
  obtain ⟨v, F, A, e1, o, eF, mk⟩ := h.slot hl hi
  obtain ⟨A', o⟩ : ∃ A', Own K F H v (.dic kvs) A' := by
    rcases ht with rfl | ⟨a, rfl⟩
    · exact ⟨_, o⟩
    · cases o with
      | at_ o => exact ⟨_, o⟩
  obtain ⟨a, xs, C, rfl, _, z1, z2, z3⟩ := o.dicI
  refine ⟨a, xs, e1, z1, z2, fun k d hd => ?_⟩
  rw [kget_ix] at hd ⊢
  rw [kix_keys (k := k) z2]
  cases e : kix kvs k with
  | none => rw [e] at hd; cases hd
  | some j =>
    rw [e] at hd
    obtain ⟨x, Bx, hx, ox, _⟩ := z3.getI hd
    cases ox with
    | v hden => exact ⟨x, hx, mk _ _ hden⟩
end
section
variable {X : Cx} {e a b c o : Expr} {es rest : List Expr} {sts : List Stmt} {ρ ρ' ρ1 ρ2 ρ3 : Rho} {d x y z : D} {r t t1 u : T} {ts : List T} {ds : List D} {kvs : List (Key × D)} {kts : List (Key × T)} {pos p p2 apos cpos : Pos} {i j : Nat} {k : Key} {bo bo' : Bool} {f xa : Str} {Z : Outs}
theorem kV_of {K : PySem.W.Frag} {B F0 H : Hp} {ρ : Rho} {σ : St} {v : V} {k : Key} (h : Rl K B F0 (some (.v (kD k)) :: ρ) (some v :: σ) H) : v = kV k := by
  obtain ⟨F, _, hd⟩ := h.elimF
  exact den_key hd
/-- {} -/
theorem ev_dnew : Ev X (.Dict [] [] pos) ρ (.dic []) ρ := ev_of pe_dnewK fun B F0 st vst σ H Q hl R k p hp => k _ _ (Rl.newOwn (ts := []) (vs := []) (o := .dK []) R rfl hp (fun F H' A hH ho => .dic (kvs := []) (ts := []) hH rfl ho))
theorem tv_dnotinO (hu : X.A.units + 64 < cLine) (i : Nat) (hb : Ev X b ρ (.v (kD k)) ρ1) (hi : ρ1[i]? = some (some t1)) (ht : t1 = .dic kts ∨ ∃ a, t1 = .at_ a (.dic kts)) (hN : X.N[i]? = some xa := by rfl) (hv : Vis X.env.scope xa := by first | exact Or.inl rfl | exact Or.inr (Or.inl rfl) | exact Or.inr (Or.inr rfl))
    (hd1 : (xa == ("__debug__" : Str)) = false := by decide) (hcd : (xa == ("__classdict__" : Str)) = false := by decide) : Tv X (.Compare b [.NotIn] [.Name xa p] pos) ρ (!(kget kts k).isSome) ρ1 :=
  tv_of (pt_cmp (pc_dnotin (by omega) (pe_u X b) (pe_var hN hv hd1 hcd)) (by rfl)) fun B F0 st vst σ H Q hl R kk => hb B F0 st vst σ H _ hl R fun w H1 R1 => by
    have ew := kV_of R1
    obtain ⟨a, xs, e1, e2, e3, _⟩ := R1.drop.lookD hl hi ht
    refine ⟨_, e1, _, _, rfl, .inl ⟨xs, k, .inl e2, ew, rfl⟩, _, rfl, ?_⟩
    rw [val_get, kget_some (k := k) e3]
    exact kk H1 R1.drop
end
end Vl
end
section
set_option maxRecDepth 100000
namespace Vl
open PySem L2
section
variable {X : Cx} {e a b c o : Expr} {es rest : List Expr} {sts : List Stmt} {ρ ρ' ρ1 ρ2 ρ3 : Rho} {d x y z : D} {r t t1 t0 u : T} {ts us : List T} {ds : List D} {kvs : List (Key × D)} {kts : List (Key × T)} {pos p p2 apos cpos : Pos} {i j : Nat} {k : Key} {bo bo' : Bool} {f xa : Str} {Z : Outs}
theorem Own.lstI {K : PySem.W.Frag} {F H : Hp} {v : V} {ts : List T} {A : List Addr} (h : Own K F H v (.lst ts) A) : ∃ a xs A', v = .ref a ∧ A = a :: A' ∧ H a = some (.lst xs) ∧ OwnL K F H xs ts A' := by
  cases h with
  | lst z1 z2 => exact ⟨_, _, _, rfl, rfl, z1, z2⟩
theorem own_lst {K : PySem.W.Frag} {F H : Hp} {v : V} {ts : List T} {A : List Addr} (o : Own K F H v t1 A) (ht : t1 = .lst ts ∨ ∃ a, t1 = .at_ a (.lst ts)) : ∃ a xs, v = .ref a ∧ H a = some (.lst xs) ∧ xs.length = ts.length := by
  rcases ht with rfl | ⟨a, rfl⟩
  · obtain ⟨a, xs, A', e1, _, e2, e3⟩ := o.lstI
    exact ⟨a, xs, e1, e2, e3.len⟩
  · cases o with
    | at_ o =>
      obtain ⟨a, xs, A', e1, _, e2, e3⟩ := o.lstI
      exact ⟨a, xs, e1, e2, e3.len⟩
/-- d[k] = e, d the owned dict of slot i -/
theorem s_setD {pa pn : Pos} (i : Nat) (hu : X.A.units + 64 < cLine) (he : Ev X e ρ r ρ1) (hb : Ev X b ρ1 (.v (kD k)) ρ1) (hi : ρ1[i]? = some (some t1)) (ht : t1 = .dic kts ∨ ∃ a, t1 = .at_ a (.dic kts)) (nd : (kts.map (·.1)).Nodup) (hz : kts.length < 100000) (h : Z.nx (ρ1.set i (some (reT t1 (.dic (kput kts k r))))))
    (hN : X.N[i]? = some xa := by rfl) (hv : Vis X.env.scope xa := by first | exact Or.inl rfl | exact Or.inr (Or.inl rfl) | exact Or.inr (Or.inr rfl)) (hd1 : (xa == ("__debug__" : Str)) = false := by decide) (hcd : (xa == ("__classdict__" : Str)) = false := by decide)
    (hs : swapsWithSole [.Subscript (.Name xa pa) b pn] e pos.line X.env = pure false := by rfl) (hw : swappedStores [.Subscript (.Name xa pa) b pn] e X.env = pure none := by rfl) (h1 : (assignEach [.Subscript (.Name xa pa) b pn] X.env).map (·.2) = [assign (.Subscript (.Name xa pa) b pn) X.env] := by rfl)
    (ha : ∀ v, assign (.Subscript (.Name xa pa) b pn) X.env v = (do
      let ov ← holding [v] (eval (.Name xa pa) X.env)
      let iv ← holding [v, ov] (eval b X.env)
      standAt pn
      holding [v, ov, iv] (setItem ov iv v)
      release [v, ov, iv] []) := by intro _; rfl) : S1 X (.Assign [.Subscript (.Name xa pa) b pn] e pos) ρ Z :=
  s1_of (ps_asg (pe_u X e) (pg_sub (pe_var hN hv hd1 hcd) (pe_u X b) (set_dict (by omega)) ha) hs hw h1) fun B F0 σ H De Wx tk R m => he B F0 [] [] σ H _ rfl R fun v H1 R1 => by
    have R1' : Rl X.K B F0 ([some r] ++ ρ1) ([some v] ++ σ) H1 := R1
    obtain ⟨w, _, _, e1, _⟩ := R1'.slot rfl hi
    refine ⟨w, e1, hb B F0 [some r] [some v] σ H1 _ rfl R1' fun q H2 R2 => ?_⟩
    have ew := kV_of R2
    obtain ⟨a, xs, g1, g2, g3, R3⟩ := Rl.putD (k := k) (show Rl X.K B F0 (some r :: ρ1) (some v :: σ) H2 from R2.drop) hi ht nd
    rw [e1] at g1
    cases g1
    exact ⟨a, _, rfl, .inl ⟨xs, k, g2, ew, by rw [g3, sizeLine_eq]; omega, rfl⟩, m.nx _ σ _ h R3⟩
/-- xs[n][k] = e, xs the owned list of slot i, its part j a dict -/
theorem s_setLD {pa pn pm : Pos} {n : Int} (i j : Nat) (hu : X.A.units + 64 < cLine) (he : Ev X e ρ r ρ1) (hb : Ev X b ρ1 (.v (.int n)) ρ1) (hc : ∀ ρ', (∀ m, m ≠ i → ρ'[m]? = ρ1[m]?) → Ev X c ρ' (.v (kD k)) ρ') (hi : ρ1[i]? = some (some (.lst ts))) (hn : ixN ts.length n = some j) (hj : ts[j]? = some (.dic kts)) (nd : (kts.map (·.1)).Nodup) (hz : kts.length < 100000)
    (h : Z.nx (ρ1.set i (some (.lst (ts.set j (.dic (kput kts k r)))))))
    (hN : X.N[i]? = some xa := by rfl) (hv : Vis X.env.scope xa := by first | exact Or.inl rfl | exact Or.inr (Or.inl rfl) | exact Or.inr (Or.inr rfl)) (hd1 : (xa == ("__debug__" : Str)) = false := by decide) (hcd : (xa == ("__classdict__" : Str)) = false := by decide) (hpi : PlainIx b := by first | exact fun _ _ => rfl | (intro _ _; rfl))
    (hs : swapsWithSole [.Subscript (.Subscript (.Name xa pa) b pn) c pm] e pos.line X.env = pure false := by rfl) (hw : swappedStores [.Subscript (.Subscript (.Name xa pa) b pn) c pm] e X.env = pure none := by rfl) (h1 : (assignEach [.Subscript (.Subscript (.Name xa pa) b pn) c pm] X.env).map (·.2) = [assign (.Subscript (.Subscript (.Name xa pa) b pn) c pm) X.env] := by rfl)
    (ha : ∀ v, assign (.Subscript (.Subscript (.Name xa pa) b pn) c pm) X.env v = (do
      let ov ← holding [v] (eval (.Subscript (.Name xa pa) b pn) X.env)
      let iv ← holding [v, ov] (eval c X.env)
      standAt pm
      holding [v, ov, iv] (setItem ov iv v)
      release [v, ov, iv] []) := by intro _; rfl) : S1 X (.Assign [.Subscript (.Subscript (.Name xa pa) b pn) c pm] e pos) ρ Z :=
  s1_of (ps_asg (pe_u X e) (pg_sub (pe_ix ix_list (pe_var hN hv hd1 hcd) (pe_u X b) hpi) (pe_u X c) (set_dict (by omega)) ha) hs hw h1) fun B F0 σ H De Wx tk R m => he B F0 [] [] σ H _ rfl R fun v H1 R1 => by
    have R1' : Rl X.K B F0 ([some r] ++ ρ1) ([some v] ++ σ) H1 := R1
    obtain ⟨w, _, _, e1, _⟩ := R1'.slot rfl hi
    refine ⟨w, e1, hb B F0 [some r] [some v] σ H1 _ rfl R1' fun q H2 R2 => ?_⟩
    have hlt : i < ρ1.length := (List.getElem?_eq_some_iff.mp hi).1
    have R3 : Rl X.K B F0 (some r :: ρ1) (some v :: σ) H2 := R2.drop
    obtain ⟨a, b', xs, g1, g2, g3, g4, R4⟩ := R3.split (i := i + 1) (by simpa using hi) (.inl rfl) hj (fun _ e => by cases e) (fun _ _ e => by cases e)
    simp only [List.getElem?_cons_succ] at g1
    rw [e1] at g1
    cases g1
    simp only [List.set_cons_succ] at R4
    refine ⟨a, xs, n, .ref b', rfl, R2.headI, SqL.of g2, by unfold atI; rw [g3, hn]; exact g4, ?_⟩
    refine hc (ρ1.set i (some (.lst (ts.set j (.v (.ref b')))))) (fun m hm => by rw [List.getElem?_set_ne (Ne.symm hm)]) B F0 [some (.at_ b' (.dic kts)), some r] [some (.ref b'), some v] σ H2 _ rfl R4 fun q3 H3 R5 => ?_
    have ek := kV_of R5
    have R6 : Rl X.K B F0 (some r :: some (.at_ b' (.dic kts)) :: ρ1.set i (some (.lst (ts.set j (.v (.ref b')))))) (some v :: some (.ref b') :: σ) H3 := Rl.swap (ρ1 := [some (.at_ b' (.dic kts))]) (ρ2 := [some r]) (σ1 := [some (.ref b')]) (σ2 := [some v]) rfl rfl R5.drop
    obtain ⟨a2, xs2, g5, g6, g7, R7⟩ := Rl.putD (k := k) (i := 0) R6 rfl (.inr ⟨_, rfl⟩) nd
    simp at g5
    subst g5
    refine ⟨b', _, rfl, .inl ⟨xs2, k, g6, ek, by rw [g7, sizeLine_eq]; omega, rfl⟩, m.nx _ σ _ h ?_⟩
    have hjl : j < ts.length := (List.getElem?_eq_some_iff.mp hj).1
    have R8 := Rl.join (i := i) (ts := ts.set j (.v (.ref b'))) (u := .dic (kput kts k r)) (j := j) (t1 := .lst (ts.set j (.v (.ref b')))) R7 (by rw [List.getElem?_set_self hlt]) (.inl rfl) (List.getElem?_set_self hjl)
    rw [List.set_set, List.set_set] at R8
    exact R8
/-- {k: e} -/
theorem ev_disp1 (ha : Ev X a ρ (.v (kD k)) ρ1) (hb : Ev X b ρ1 r ρ2) : Ev X (.Dict [some a] [b] pos) ρ (.dic [(k, r)]) ρ2 :=
  ev_of (pe_disp (pps_cons (pe_u X a) (pe_u X b) pps_nil) rfl rfl (by simp) (by simp)) fun B F0 st vst σ H Q hl R kk p hp => by
    have R0 : Rl X.K B F0 (some (.dic []) :: (st ++ ρ)) (some (.ref p) :: (vst ++ σ)) (upd H p (.dK [])) := Rl.newOwn (ts := []) (vs := []) (o := .dK []) R rfl hp (fun F H' A hH ho => .dic (kvs := []) (ts := []) hH rfl ho)
    refine ha B F0 (some (.dic []) :: st) (some (.ref p) :: vst) σ _ _ (by simp [hl]) R0 fun v H1 R1 => ?_
    have ev := kV_of R1
    have R1' : Rl X.K B F0 (some (.dic []) :: (st ++ ρ1)) (some (.ref p) :: (vst ++ σ)) H1 := R1.drop
    refine hb B F0 (some (.dic []) :: st) (some (.ref p) :: vst) σ H1 _ (by simp [hl]) R1' fun w H2 R2 => ?_
    have R2' : Rl X.K B F0 (some r :: some (.dic []) :: (st ++ ρ2)) (some w :: some (.ref p) :: (vst ++ σ)) H2 := R2
    obtain ⟨a2, xs2, g5, g6, g7, R7⟩ := Rl.putD (k := k) (i := 0) R2' rfl (.inl rfl) List.nodup_nil
    simp at g5
    subst g5
    have : xs2 = [] := List.eq_nil_of_length_eq_zero g7
    subst this
    refine ⟨g6, [(k, w)], by rw [ev]; rfl, by simp, kk _ _ ?_⟩
    have e1 : mergeK ([] : List (Key × V)) [(k, w)] = putK [] k w := rfl
    rw [e1]
    exact R7
end
end Vl
end
section
set_option maxRecDepth 100000
namespace Vl
open PySem L2
/-! ### tuples compared -/
def rLtD (K : PySem.W.Frag) : R2 := fun x y H Q => ∃ d e, Dp K H x d ∧ Dp K H y e ∧ PySem.W.alike d e = true ∧ d ≠ .none ∧ min d.depth e.depth < 64 ∧ Q (.bl (PySem.W.dataLt d e)) H
theorem op_ltD {X : Cx} (hu : X.A.units + 64 < cLine) : OpR X (compareOp .Lt) (rLtD X.K) := by
  rintro pins s σ H x y v u Q I rx ry ⟨d, e, hd, he, al, nn, dp, q⟩
  obtain ⟨as, r1⟩ := Dp.reads I d x v hd rx
  obtain ⟨bs, r2⟩ := Dp.reads I e y u he ry
  exact PySem.W.rcLt_alike d e X.A s v u as bs r1 r2 al nn (by omega) X.prog X.w _ _ ⟨.bl _, H, I, rfl, q⟩
theorem kD_plain : ∀ k : Key, (kD k).plain = true
  | .inl _ => by simp [kD, D.plain]
  | .inr _ => by simp [kD, D.plain]
theorem kDs_plain : ∀ ks : List Key, D.plainL (ks.map kD) = true
  | [] => by simp [D.plainL]
  | k :: ks => by simp [D.plainL, kD_plain, kDs_plain ks]
theorem kD_depth : ∀ k : Key, (kD k).py.depth = 0
  | .inl _ => by simp [kD, D.py, PyData.depth]
  | .inr _ => by simp [kD, D.py, PyData.depth]
theorem kDs_depth : ∀ ks : List Key, PyData.depthAll (D.pyL (ks.map kD)) = 0
  | [] => by simp [D.pyL, PyData.depthAll]
  | k :: ks => by simp [D.pyL, PyData.depthAll, kD_depth, kDs_depth ks]
def likeK : List Key → List Key → Bool
  | .inl _ :: xs, .inl _ :: ys => likeK xs ys
  | .inr _ :: xs, .inr _ :: ys => likeK xs ys
  | [], _ => true
  | _, [] => true
  | _, _ => false
theorem alike_K : ∀ xs ys : List Key, likeK xs ys = true → PySem.W.alikeAll (D.pyL (xs.map kD)) (D.pyL (ys.map kD)) = true
  | [], ys, _ => by simp [D.pyL, PySem.W.alikeAll]
  | x :: xs, [], _ => by simp [D.pyL, PySem.W.alikeAll]
  | .inl _ :: xs, .inl _ :: ys, h => by
    have := alike_K xs ys (by simpa [likeK] using h)
    simp [D.pyL, D.py, kD, PySem.W.alikeAll, PySem.W.alike, this]
  | .inr _ :: xs, .inr _ :: ys, h => by
    have := alike_K xs ys (by simpa [likeK] using h)
    simp [D.pyL, D.py, kD, PySem.W.alikeAll, PySem.W.alike, this]
  | .inl _ :: xs, .inr _ :: ys, h => by simp [likeK] at h
  | .inr _ :: xs, .inl _ :: ys, h => by simp [likeK] at h
theorem tok_K (k : Key) : PySem.W.keyToks (kD k).py = [kI k] := by cases k <;> simp [kD, D.py, PySem.W.keyToks, kI]
theorem lt_K : ∀ xs ys : List Key, PyProof.Rows.lexLt PyProof.Rows.itemOrd (PySem.W.keyToksAll (D.pyL (xs.map kD))) (PySem.W.keyToksAll (D.pyL (ys.map kD))) = ltK xs ys
  | [], [] => by simp [D.pyL, PySem.W.keyToksAll, ltK]; decide
  | [], y :: ys => by simp [D.pyL, PySem.W.keyToksAll, ltK]; rfl
  | x :: xs, [] => by simp [D.pyL, PySem.W.keyToksAll, ltK]; rfl
  | x :: xs, y :: ys => by
    have ih := lt_K xs ys
    simp only [List.map_cons, D.pyL, PySem.W.keyToksAll, tok_K, List.singleton_append, ltK] at ih ⊢
    rw [PyProof.Rows.lex_self]
    by_cases e : kI x = kI y
    · rw [e, PyProof.Rows.lex_self, PyProof.Rows.lex_self]; exact ih
    · rw [PyProof.Rows.lex_diff e, PyProof.Rows.lex_diff e]
theorem cv_ltK {X : Cx} {a b : List Key} (hu : X.A.units + 64 < cLine) (h : likeK a b = true) : CmpV X .Lt (tK a) (tK b) (ltK a b) := ⟨_, op_ltD hu, fun H v u Q hv hu' k => by
  have pa : (tK a).plain = true := by simpa [tK, D.plain] using kDs_plain a
  have pb : (tK b).plain = true := by simpa [tK, D.plain] using kDs_plain b
  refine ⟨_, _, hv.dp pa, hu'.dp pb, by simpa [tK, D.py, PySem.W.alike] using alike_K a b h, by simp [tK, D.py], ?_, ?_⟩
  · simp only [tK, D.py, PyData.depth, kDs_depth]
    omega
  · have : PySem.W.dataLt (tK a).py (tK b).py = ltK a b := by
      simp only [tK, D.py, PySem.W.dataLt_tuple]
      exact lt_K a b
    rw [this]
    exact k⟩
/-! ### truth of lists -/
section
variable {X : Cx} {e a b c o : Expr} {es rest : List Expr} {sts : List Stmt} {ρ ρ' ρ1 ρ2 ρ3 : Rho} {d x y z : D} {r t t1 t0 u : T} {ts us : List T} {ds ds' : List D} {kvs : List (Key × D)} {kts : List (Key × T)} {pos p p2 p3 apos cpos : Pos} {i j : Nat} {k : Key} {bo bo' : Bool} {f xa : Str} {Z : Outs}
/-- the owned list of slot i, as a test -/
theorem tv_truO (i : Nat) (hi : ρ[i]? = some (some t1)) (ht : t1 = .lst ts ∨ ∃ a, t1 = .at_ a (.lst ts)) (hN : X.N[i]? = some xa := by rfl) (hv : Vis X.env.scope xa := by first | exact Or.inl rfl | exact Or.inr (Or.inl rfl) | exact Or.inr (Or.inr rfl))
    (hd1 : (xa == ("__debug__" : Str)) = false := by decide) (hcd : (xa == ("__classdict__" : Str)) = false := by decide) (he : ∀ whole, isTrue (.Name xa p) X.env whole = (do let v ← whole; standAt (Expr.Name xa p).pos; holding [v] (truthy v)) := by intro _; rfl) : Tv X (.Name xa p) ρ (!ts.isEmpty) ρ :=
  tv_of (pt_truth (pe_var hN hv hd1 hcd) he) fun B F0 st vst σ H Q hl R kk => by
    obtain ⟨v, F, A, e1, ow, eF, _⟩ := R.slot hl hi
    obtain ⟨a, xs, rfl, ex, el⟩ := own_lst ow ht
    refine ⟨_, e1, _, .inl ⟨xs, SqL.of ex, rfl⟩, ?_⟩
    have : (!xs.isEmpty) = !ts.isEmpty := by cases xs <;> cases ts <;> simp_all
    rw [this]
    exact kk H R
theorem tv_tru (he0 : Ev X e ρ (.v (.lst ds)) ρ1) (he : ∀ whole, isTrue e X.env whole = (do let v ← whole; standAt e.pos; holding [v] (truthy v)) := by intro _; rfl) : Tv X e ρ (!ds.isEmpty) ρ1 :=
  tv_of (pt_truth (pe_u X e) he) fun B F0 st vst σ H Q hl R kk => he0 B F0 st vst σ H _ hl R fun v H1 R1 => by
    obtain ⟨F, RF, hd⟩ := R1.elimF
    cases hd with
    | lst hq q =>
      refine ⟨_, .inl ⟨_, RF.sub.sqL hq, rfl⟩, ?_⟩
      have hlen := q.length
      rename_i xs
      have : (!xs.isEmpty) = !ds.isEmpty := by cases xs <;> cases ds <;> simp_all
      rw [this]
      exact kk H1 RF.rl
end
/-! ### lists made of others -/
section
variable {K : PySem.W.Frag} {B F0 F F' H H' : Hp} {ρ ρ' st : Rho} {σ σ' vst : St} {v y : V} {d : D} {t t1 r u u' : T} {i j : Nat} {ts us : List T} {p : Addr}
/-- an owned list at the head, opened: its parts stand there -/
theorem Rl.openL (h : Rl K B F0 (some (.lst ts) :: ρ) (some v :: σ) H) : ∃ a xs, v = .ref a ∧ H a = some (.lst xs) ∧ xs.length = ts.length ∧ Rl K B F0 (ts.map some ++ ρ) (xs.map some ++ σ) H := by
  obtain ⟨F, A, e0, e1, e2, dm, o, nd, fr⟩ := h
  cases o with
  | cons o1 o2 =>
    obtain ⟨a, xs, C, rfl, rfl, hH, hx⟩ := o1.lstI
    refine ⟨a, xs, rfl, hH, hx.len, F, _, e0, e1, e2, dm, (OwnS.ofL hx).append o2, ?_, fun b hb => fr b (by simp at hb ⊢; exact .inr hb)⟩
    exact (List.nodup_cons.mp (by simpa using nd)).2
end
section
variable {X : Cx} {e a b c o : Expr} {es rest : List Expr} {sts : List Stmt} {ρ ρ' ρ1 ρ2 ρ3 : Rho} {d x y z : D} {r t t1 t0 u : T} {ts us : List T} {ds ds' : List D} {kvs : List (Key × D)} {kts : List (Key × T)} {pos p p2 p3 apos cpos : Pos} {i j : Nat} {k : Key} {bo bo' : Bool} {f xa : Str} {Z : Outs}
/-- a name whose thing is taken along -/
theorem ev_varM (i : Nat) (hr : ρ[i]? = some (some t)) (hN : X.N[i]? = some xa := by rfl) (hv : Vis X.env.scope xa := by first | exact Or.inl rfl | exact Or.inr (Or.inl rfl) | exact Or.inr (Or.inr rfl)) (hd : (xa == ("__debug__" : Str)) = false := by decide)
    (hcd : (xa == ("__classdict__" : Str)) = false := by decide) : Ev X (.Name xa pos) ρ t (ρ.set i none) := ev_of (pe_var hN hv hd hcd) fun B F0 st vst σ H Q hl R k => by
  obtain ⟨F, A, e0, e1, e2, dm, o, nd, fr⟩ := R
  obtain ⟨A1, A2, rfl, o1, o2⟩ := o.split hl
  obtain ⟨v, C1, C2, C3, e3, rfl, o3, _, kk⟩ := o2.at hr
  have oS' : OwnS X.K F H σ (ρ.set i none) (C1 ++ C3) := by
    refine (kk none).alter (by simp) fun j' t' ej => ?_
    have : j' ≠ i := fun z => by
      subst z
      rw [List.getElem?_set_self (List.getElem?_eq_some_iff.mp hr).1] at ej
      cases ej
    rw [List.getElem?_set_ne (Ne.symm this)]
  have pm : (C2 ++ (A1 ++ (C1 ++ C3))).Perm (A1 ++ (C1 ++ (C2 ++ C3))) := by
    have q1 : (A1 ++ (C1 ++ (C2 ++ C3))) = (A1 ++ C1) ++ (C2 ++ C3) := by simp [List.append_assoc]
    have q2 : (C2 ++ (A1 ++ (C1 ++ C3))) = (C2 ++ (A1 ++ C1)) ++ C3 := by simp [List.append_assoc]
    have q3 : (A1 ++ C1) ++ (C2 ++ C3) = ((A1 ++ C1) ++ C2) ++ C3 := by simp [List.append_assoc]
    rw [q1, q2, q3]
    exact List.Perm.append_right C3 List.perm_append_comm
  exact ⟨v, e3, k v H ⟨F, _, e0, e1, e2, dm, OwnS.cons o3 (o1.append oS'), pm.nodup_iff.mpr nd, fun b hb => fr b (pm.mem_iff.mp hb)⟩⟩
/-- sorted(d), the keys ints -/
theorem ev_sortedD {ks ms : List Int} (hc : X.calm = true) (ha : EvA X [e] ρ [r] ρ1) (hr : r.d = .dic kvs) (hk : kvs.map (·.1) = ks.map Sum.inl) (hz : ks.length < 64) (h1 : ms.Perm ks) (h2 : ms.Pairwise (· ≤ ·)) (hm : X.mg "sorted" = none) (hg : Gl X "sorted" := by rfl) (he : starEach [e] X.env = (false, eval e X.env) :: starEach [] X.env := by rfl) :
    Ev X (.Call (.Name "sorted" p) [e] [] pos) ρ (.lst (ms.map fun n => .v (.int n))) ρ1 := by
  have := ev_callBL (us := ms.map D.int) (p := p) (pos := pos) (call_sortedDI hc) hm PyProof.Rows.boot_sorted ha (fun F H vs Q eF h k => by
    obtain ⟨v, rfl, hd⟩ := denl1 h
    rw [hr] at hd
    cases hd with
    | @dic a xs _ hq hk' q =>
      refine ⟨a, xs, ks, rfl, eF.rd hq, hk'.trans hk, hz, fun ys p g1 g2 hp => ?_⟩
      have : ys = ms := List.Perm.eq_of_pairwise (le := fun a b : Int => a ≤ b) (fun a b _ _ h1 h2 => Int.le_antisymm h1 h2) g2 h2 (g1.trans h1.symm)
      subst this
      exact k _ p (ints_den _) hp) hg (he := he)
  simpa [List.map_map, Function.comp_def] using this
end
end Vl
end
section
set_option maxRecDepth 100000
namespace Vl
open PySem L2
section
variable {α : Type}
def fput (f : Str) (x : α) : List (Str × α) → List (Str × α)
  | [] => [(f, x)]
  | (g, y) :: r => if g = f then (g, x) :: r else (g, y) :: fput f x r
end
theorem fput_keys {α β : Type} {f : Str} {x : α} {y : β} : ∀ {ks : List (Str × α)} {fs : List (Str × β)}, ks.map (·.1) = fs.map (·.1) → (fput f x ks).map (·.1) = (fput f y fs).map (·.1)
  | [], [], _ => rfl
  | [], _ :: _, h => by simp at h
  | _ :: _, [], h => by simp at h
  | (g, _) :: ks, (g', _) :: fs, h => by
    rw [List.map_cons, List.map_cons, List.cons.injEq] at h
    obtain ⟨e, h⟩ := h
    dsimp only at e
    subst e
    have ih := fput_keys (f := f) (x := x) (y := y) h
    unfold fput
    by_cases e : g = f
    · rw [if_pos e, if_pos e]; simp [h]
    · rw [if_neg e, if_neg e]; simp only [List.map_cons, ih]
theorem fput_V (f : Str) (v : V) : ∀ fs : List (Str × V), fput f v fs = putF f v fs
  | [] => rfl
  | (g, y) :: r => by
    unfold fput putF
    split
    · rfl
    · rw [fput_V f v r]
section
variable {K : PySem.W.Frag} {B F0 F F' H H' : Hp} {ρ ρ' st : Rho} {σ σ' vst : St} {v y : V} {d : D} {t t1 r u u' : T} {i j : Nat} {f : Str} {C : Addr}
theorem Own.objI {A : List Addr} {fs : List (Str × T)} (h : Own K F H v (.obj C fs) A) : ∃ a dx ks A', v = .ref a ∧ A = a :: A' ∧ H a = some (.ins C dx ks) ∧ ks.map (·.1) = fs.map (·.1) ∧ OwnL K F H (ks.map (·.2)) (fs.map (·.2)) A' := by
  cases h with
  | obj z1 z2 z3 => exact ⟨_, _, _, _, rfl, rfl, z1, z2, z3⟩
theorem OwnL.fput {A' : List Addr} (o : Own K F H y u A') : ∀ {ks : List (Str × V)} {fs : List (Str × T)} {A : List Addr}, ks.map (·.1) = fs.map (·.1) → OwnL K F H (ks.map (·.2)) (fs.map (·.2)) A →
    (Vl.fput f y ks).map (·.1) = (Vl.fput f u fs).map (·.1) ∧ ∃ A2, OwnL K F H ((Vl.fput f y ks).map (·.2)) ((Vl.fput f u fs).map (·.2)) A2 ∧ Less A2 (A ++ A')
  | [], [], _, _, .nil => ⟨rfl, A' ++ [], .cons o .nil, by simpa using Less.refl _⟩
  | [], _ :: _, _, h, _ => by simp at h
  | _ :: _, [], _, h, _ => by simp at h
  | (g, y1) :: ks, (g', u1) :: fs, _, h, .cons (A := A1) (B := A2) h1 q => by
    rw [List.map_cons, List.map_cons, List.cons.injEq] at h
    obtain ⟨rfl, h⟩ := h
    unfold Vl.fput
    by_cases e : g = f
    · rw [if_pos e, if_pos e]
      exact ⟨by simp [h], A' ++ A2, .cons o q, (Less.of_perm List.perm_append_comm).trans (Less.of_sub (List.Sublist.append (List.sublist_append_right A1 A2) (List.Sublist.refl A')))⟩
    · rw [if_neg e, if_neg e]
      obtain ⟨e1, A3, o3, l3⟩ := OwnL.fput o h q
      exact ⟨by simp [e1], A1 ++ A3, .cons h1 o3, by rw [List.append_assoc]; exact (Less.refl A1).app l3⟩
/-- x.f = y, x the owned object of slot i -/
theorem Rl.putO {fs : List (Str × T)} (h : Rl K B F0 (some u :: ρ) (some y :: σ) H) (hi : ρ[i]? = some (some t1)) (ht : t1 = .obj C fs ∨ ∃ a, t1 = .at_ a (.obj C fs)) :
    ∃ (a dx : Addr) (ks : List (Str × V)), σ[i]? = some (some (.ref a)) ∧ H a = some (.ins C dx ks) ∧ ks.length = fs.length ∧ Rl K B F0 (ρ.set i (some (reT t1 (.obj C (fput f u fs))))) σ (upd H a (.ins C dx (putF f y ks))) := by
  have h' : Rl K B F0 ([u].map some ++ ρ) ([y].map some ++ σ) H := h
  obtain ⟨a, o, vs, e1, e2, ⟨dx, ks, e3, e4, e5⟩, _, _, k'⟩ := h'.writeG (fun o vs => ∃ (dx : Addr) (ks : List (Str × V)), o = .ins C dx ks ∧ ks.map (·.1) = fs.map (·.1) ∧ vs = ks.map (·.2)) (i := i) (t := .obj C fs) (ts := fs.map (·.2)) rfl hi ht (fun _ _ e => by cases e) (fun {F H v A} ow => by
    obtain ⟨a, dx, ks, A', z1, z2, z3, z4, z5⟩ := ow.objI
    exact ⟨a, _, _, A', z1, z2, z3, z5, dx, ks, rfl, z4, rfl⟩)
  subst e3 e5
  refine ⟨a, dx, ks, e1, e2, by have := congrArg List.length e4; simpa using this, ?_⟩
  rw [← fput_V]
  have keys := fput_keys (f := f) (x := y) (y := u) e4
  exact k' _ ((fput f y ks).map (·.2)) ((fput f u fs).map (·.2)) (.obj C (fput f u fs)) (fun F H' A' e o => .obj e keys o) fun F H' A C' o1 o2 => by
    cases o2 with
    | cons o3 o4 =>
      cases o4
      obtain ⟨_, A', o5, l⟩ := OwnL.fput (f := f) o3 e4 o1
      exact ⟨A', o5, by simpa using l⟩
end
/-- a class whose __init__ keeps R -/
def Cn (P : Program) (w : World) (K : PySem.W.Frag) (mg : Str → Option Value) (base : Heap) (k : Nat) (x : Str) (C : Addr) (R : Pr) : Prop :=
  ∃ (f : Addr) (fd : FuncData) (ps : List Str), Mk K C f ∧ FnOk P w K mg base (L2.CX P w) k f fd ps (spF K R) ∧ mg x = some (.ref C) ∧ Binds K fd ps []
section
variable {X : Cx} {e a b c o : Expr} {es rest : List Expr} {sts : List Stmt} {ρ ρ' ρ1 ρ2 ρ3 : Rho} {d x y z : D} {r t t1 t0 u u' : T} {ts us : List T} {ds ds' : List D} {pos p p2 p3 pos' apos cpos : Pos} {i j k : Nat} {bo bo' : Bool} {f xa : Str} {Z : Outs} {C : Addr} {R : Pr}
/-- x.f = e, x the owned object of slot i -/
theorem s_fld {pa : Pos} {fs : List (Str × T)} (i : Nat) (he : Ev X e ρ r ρ1) (hi : ρ1[i]? = some (some t1)) (ht : t1 = .obj C fs ∨ ∃ a, t1 = .at_ a (.obj C fs)) (hc : Cls X.K C) (hn : NoAttr X.K C f) (hz : fs.length < 900) (h : Z.nx (ρ1.set i (some (reT t1 (.obj C (fput f r fs))))))
    (hN : X.N[i]? = some xa := by rfl) (hv : Vis X.env.scope xa := by first | exact Or.inl rfl | exact Or.inr (Or.inl rfl) | exact Or.inr (Or.inr rfl)) (hd1 : (xa == ("__debug__" : Str)) = false := by decide) (hcd : (xa == ("__classdict__" : Str)) = false := by decide)
    (hs : swapsWith e (some (.Attribute (.Name xa pa) f pos')) pos.line X.env = pure false := by rfl) : S1 X (.Assign [.Attribute (.Name xa pa) f pos'] e pos) ρ Z :=
  s1_of (ps_fld (pe_var hN hv hd1 hcd) (pe_u X e) hs) fun B F0 σ H De Wx tk R m => he B F0 [] [] σ H _ rfl R fun v H1 R1 => by
    have R1' : Rl X.K B F0 (some r :: ρ1) (some v :: σ) H1 := R1
    obtain ⟨a, dx, ks, g1, g2, g3, R2⟩ := R1'.putO (f := f) hi ht
    exact ⟨_, g1, a, C, dx, ks, rfl, g2, hc, hn, by omega, m.nx _ σ _ h R2⟩
end
end Vl
end
section
set_option maxRecDepth 100000
namespace Vl
open PySem L2
theorem v_inj : ∀ {ds es : List D}, ds.map T.v = es.map T.v → ds = es
  | [], [], _ => rfl
  | [], _ :: _, h => by simp at h
  | _ :: _, [], h => by simp at h
  | a :: ds, b :: es, h => by
    rw [List.map_cons, List.map_cons, List.cons.injEq] at h
    obtain ⟨h1, h2⟩ := h
    injection h1 with h1
    rw [h1, v_inj h2]
theorem map_vd : ∀ ds : List D, (ds.map T.v).map T.d = ds
  | [] => rfl
  | d :: ds => by rw [List.map_cons, List.map_cons, T.d_v, map_vd ds]
theorem map_vv : ∀ ds : List D, ((ds.map T.v).map fun t => T.v t.d) = ds.map T.v
  | [] => rfl
  | d :: ds => by rw [List.map_cons, List.map_cons, T.d_v, map_vv ds]
theorem lst_vd (ds : List D) : (T.lst (ds.map T.v)).d = .lst ds := by rw [T.d_lst, map_vd]
section
variable {X : Cx} {e a b c o : Expr} {es rest : List Expr} {ρ ρ1 ρ2 ρ3 : Rho} {d x y z : D} {r t u' : T} {ts us : List T} {pos p p2 : Pos} {i k : Nat} {f xa : Str} {R : Pr} {C : Addr}
theorem Iter.to {tg it : Expr} {n n' : Nat} {item item' : Nat → D} (h : Iter X tg it ρ ρ1 n item) (hn : n = n') (e : ∀ i, i < n' → item i = item' i) : Iter X tg it ρ ρ1 n' item' := by
  subst hn
  exact h.eq e
/-- f(..), plain data given -/
theorem ev_callV (ds : List D) (Fd : Fn X.prog X.w X.K X.mg X.base k f R) (hr : Room k X.A) (ha : EvA X (e :: es) ρ (ds.map T.v) ρ1) (hR : R (ds.map T.v) (fun r' _ => r' = r) (fun _ => False)) (hg : Gl X f := by rfl) (hdb : (f == ("__debug__" : Str)) = false := by decide)
    (he : starEach (e :: es) X.env = (false, eval e X.env) :: starEach es X.env := by rfl) (hpl : (backTo pos (starEach es X.env)).any (·.1) = false := by rfl) : Ev X (.Call (.Name f p) (e :: es) [] pos) ρ r ρ1 :=
  ev_call Fd hr ha (by rw [map_vv]; exact hR) hg hdb he hpl
/-- a name whose list is let go -/
theorem ev_varL {ds : List D} {x : Str} (i : Nat) (hr : ρ[i]? = some (some (.lst (ds.map T.v))) := by rfl) (hN : X.N[i]? = some x := by rfl) (hv : Vis X.env.scope x := by first | exact Or.inl rfl | exact Or.inr (Or.inl rfl) | exact Or.inr (Or.inr rfl)) (hd : (x == ("__debug__" : Str)) = false := by decide)
    (hcd : (x == ("__classdict__" : Str)) = false := by decide) : Ev X (.Name x pos) ρ (.v (.lst ds)) (ρ.set i (some (.v (.lst ds)))) := by
  have := ev_varF (pos := pos) i hr hN hv hd hcd
  rwa [lst_vd] at this
end
end Vl
end
section
set_option maxRecDepth 100000
namespace Vl
open PySem L2
section
variable {X : Cx} {e a b c o : Expr} {es rest : List Expr} {sts body : List Stmt} {ρ ρ1 ρ2 ρ3 : Rho} {d x y z : D} {r t u' : T} {ts us : List T} {pos p p2 : Pos} {i k : Nat} {f xa : Str} {R : Pr} {C : Addr} {Φ : T → Rho → Prop} {Z : Outs}
end
end Vl
end
section
set_option maxRecDepth 100000
set_option maxHeartbeats 4000000
/-! set(xs), xs a list of ints -/
namespace Vl
open PySem PySem.Spec PyProof.Rows L2
section
variable {P : Program} {w : World} {A : Around} {E : Value → Shared → Prop} {s : Shared}
end
end Vl
end
section
set_option maxRecDepth 100000
namespace Vl
open PySem L2
section
variable {X : Cx} {e a b c o : Expr} {es rest : List Expr} {sts body : List Stmt} {ρ ρ1 ρ2 ρ3 : Rho} {d x y z : D} {r t u' : T} {ts us : List T} {pos p p2 pos2 : Pos} {i k : Nat} {f xa : Str} {R : Pr} {C : Addr} {Z : Outs} {ds : List D}
theorem RlF.pushL {K : PySem.W.Frag} {B F0 F H : Hp} {ρ : Rho} {σ : St} (R : RlF K B F0 F ρ σ H) : ∀ {vs : List V} {ds : List D}, DenL K F vs ds → RlF K B F0 F ((ds.map T.v).map some ++ ρ) (vs.map some ++ σ) H
  | _, _, .nil => R
  | _, _, .cons h t => by
    obtain ⟨A, e0, e1, e2, dm, o, nd, fr⟩ := RlF.pushL R t
    exact ⟨A, e0, e1, e2, dm, OwnS.cons (A := []) (.v h) o, nd, fr⟩
theorem owns_den {K : PySem.W.Frag} {F H : Hp} : ∀ {ds : List D} {xs : List V} {A : List Addr}, OwnL K F H xs (ds.map T.v) A → DenL K F xs ds
  | [], _, _, .nil => .nil
  | _ :: _, _, _, .cons h t => by
    cases h with
    | v hd => exact .cons hd (owns_den t)
end
end Vl
end
section
set_option maxRecDepth 100000
namespace Vl
open PySem L2
section
variable {X : Cx} {e a b c o : Expr} {es rest : List Expr} {sts body : List Stmt} {ρ ρ1 ρ2 ρ3 : Rho} {d x y z : D} {r t : T} {ts us : List T} {pos p p2 pos2 pos' : Pos} {i k : Nat} {f xa : Str} {R : Pr} {C : Addr} {Z : Outs} {ds : List D} {Φ : T → Rho → Prop}
end
end Vl
end
section
set_option maxRecDepth 100000
namespace Vl
open PySem L2
def bltN : List Str := ["isinstance", "int", "bool", "str", "tuple", "list", "dict", "len", "all", "any", "sum", "max", "min", "range", "sorted", "set", "abs", "enumerate", "zip", "repr", "reversed", "ord", "map"]
def R_is_integer (K : PySem.W.Frag) : Pr := fun ts Q _ => ∃ d, ts = [.v d] ∧ d.isOk K ∧ Q (.v (.bl (d.isInt && !d.isBl))) ts
section
variable {P : Program} {w : World} {K : PySem.W.Frag} {mg : Str → Option Value} {base : Heap}
def Bl (mg : Str → Option Value) : Prop := ∀ x ∈ bltN, mg x = none
theorem Bl.at {mg : Str → Option Value} (G : Bl mg) {x : Str} (h : bltN.contains x = true := by decide +kernel) : mg x = none := G x (List.contains_iff_mem.mp h)
end
end Vl
end
section
set_option maxRecDepth 100000
namespace Vl
open PySem L2
def R_is_within : Pr := fun ts Q _ => ∃ a lo hi : Int, ts = [.v (.int a), .v (.int lo), .v (.int hi)] ∧ Q (.v (.bl (decide (lo ≤ a) && decide (a ≤ hi)))) ts
def R_is_letter : Pr := fun ts Q _ => ∃ c : Nat, ts = [.v (.str ⟨#[c]⟩)] ∧ Q (.v (.bl (decide (97 ≤ c ∧ c ≤ 122)))) ts
section
variable {P : Program} {w : World} {K : PySem.W.Frag} {mg : Str → Option Value} {base : Heap}
theorem at_nat {α : Type} {xs : List α} {i : Nat} {x : α} (h : xs[i]? = some x) : atI xs (i : Int) = some x := by
  have hl := (List.getElem?_eq_some_iff.mp h).1
  unfold atI ixN
  rw [if_pos (by omega), if_pos (by omega)]
  simpa using h
theorem cv_ltKb {X : Cx} {a b : List Key} {bo : Bool} (hu : X.A.units + 64 < cLine) (h : likeK a b = true) (e : ltK a b = bo) : CmpV X .Lt (tK a) (tK b) bo := e ▸ cv_ltK hu h
def R_is_rising : Pr := fun ts Q _ => ∃ ks : List (List Key), ts = [.v (.tup (ks.map tK))] ∧ ks.length ≤ 60 ∧ 1 ≤ ks.length ∧ (∀ i a b, ks[i]? = some a → ks[i + 1]? = some b → likeK a b = true ∧ ltK a b = true) ∧ Q (.v (.bl true)) ts
end
end Vl
end
section
set_option maxRecDepth 100000
namespace Vl
open PySem L2
abbrev Arw := Int × Str × Int × Int
def aK (a : Arw) : List Key := [.inl a.1, .inr a.2.1, .inl a.2.2.1, .inl a.2.2.2]
structure ArwOk (n : Int) (a : Arw) : Prop where
  s0 : 0 ≤ a.1
  s1 : a.1 < n
  l : ∃ c : Nat, a.2.1 = ⟨#[c]⟩ ∧ 97 ≤ c ∧ c ≤ 122
  p0 : 0 ≤ a.2.2.1
  p1 : a.2.2.1 ≤ 9
  t0 : 0 ≤ a.2.2.2
  t1 : a.2.2.2 < n
/-- a track of n places -/
structure Good (n : Int) (as : List Arw) : Prop where
  n1 : 1 ≤ n
  n2 : n ≤ 12
  l1 : 1 ≤ as.length
  l2 : as.length ≤ 60
  ok : ∀ a ∈ as, ArwOk n a
  up : (as.map aK).Pairwise fun a b => ltK a b = true
  tw : (as.map fun a => (a.1, a.2.1)).Nodup
  all : ∀ i : Int, 0 ≤ i → i < n → ∃ a ∈ as, a.1 = i
structure Mc (mg : Str → Option Value) : Prop where
  places : ∃ t, mg "MOST_PLACES" = some (.int 12 t)
  arrows : ∃ t, mg "MOST_ARROWS" = some (.int 60 t)
  pay : ∃ t, mg "MOST_PAY" = some (.int 9 t)
def R_is_arrow : Pr := fun ts Q _ => ∃ n a, ts = [.v (.int n), .v (tK (aK a))] ∧ ArwOk n a ∧ Q (.v (.bl true)) ts
def R_are_arrows : Pr := fun ts Q _ => ∃ n as, ts = [.v (.int n), .v (.tup (as.map fun a => tK (aK a)))] ∧ Good n as ∧ Q (.v (.bl true)) ts
def R_wrong_part : Pr := fun ts Q _ => ∃ n as, ts = [.v (.int n), .v (.tup (as.map fun a => tK (aK a)))] ∧ Good n as ∧ Q (.v .non) ts
theorem cv_ltb {X : Cx} {a b : Int} {bo : Bool} (h : bo = decide (a < b)) : CmpV X .Lt (.int a) (.int b) bo := h ▸ cv_lt
theorem cv_leb {X : Cx} {a b : Int} {bo : Bool} (h : bo = decide (a ≤ b)) : CmpV X .LtE (.int a) (.int b) bo := h ▸ cv_le
theorem ev_allb {X : Cx} {e : Expr} {ρ ρ1 : Rho} {r : T} {p pos : Pos} {bo : Bool} (ns : List Bool) (hb : (ns.all fun b => b) = bo) (ha : EvA X [e] ρ [r] ρ1) (hr : r.d = .lst (ns.map D.bl)) (hc : X.calm = true) (hm : X.mg "all" = none) (hg : Gl X "all" := by rfl) (he : starEach [e] X.env = (false, eval e X.env) :: starEach [] X.env := by rfl) : Ev X (.Call (.Name "all" p) [e] [] pos) ρ (.v (.bl bo)) ρ1 := hb ▸ ev_all ha hr hc hm hg he
theorem ev_mI {X : Cx} {ρ : Rho} {x : Str} {n : Int} {p : Pos} (h : ∃ t, X.mg x = some (.int n t)) (hg : Gl X x := by rfl) (hdb : (x == ("__debug__" : Str)) = false := by decide) : Ev X (.Name x p) ρ (.v (.int n)) ρ := by
  obtain ⟨t, h⟩ := h
  exact ev_glob (v := .int n) hg h ⟨t, rfl⟩ (fun F => .int n) hdb
theorem wit {lo a hi : Int} (h1 : lo ≤ a) (h2 : a ≤ hi) : T.v (.bl (decide (lo ≤ a) && decide (a ≤ hi))) = T.v (.bl true) := by rw [decide_eq_true h1, decide_eq_true h2]; rfl
section
variable {P : Program} {w : World} {K : PySem.W.Frag} {mg : Str → Option Value} {base : Heap}
theorem likeK_aK : ∀ a b : Arw, likeK (aK a) (aK b) = true := fun a b => rfl
end
end Vl
end
section
set_option maxRecDepth 100000
namespace Vl
open PySem L2
theorem len_same {α : Type} {L M : List α} (h1 : L.Nodup) (h2 : M.Nodup) (h : ∀ k, k ∈ L ↔ k ∈ M) : L.length = M.length := ((List.perm_ext_iff_of_nodup h1 h2).2 h).length_eq
section
variable {P : Program} {w : World} {K : PySem.W.Frag} {mg : Str → Option Value} {base : Heap}
end
end Vl
end
section
set_option maxRecDepth 100000
namespace Vl
open PySem L2
def asD (as : List Arw) : D := .tup (as.map fun a => tK (aK a))
/-- a track -/
def trT (C : Addr) (n : Int) (as : List Arw) : T := .obj C [("places", .v (.int n)), ("arrows", .v (asD as))]
def trD (C : Addr) (n : Int) (as : List Arw) : D := .obj C [("places", .int n), ("arrows", asD as)]
theorem trT_d (C : Addr) (n : Int) (as : List Arw) : (trT C n as).d = trD C n as := by simp [trT, trD, T.d_obj, T.d_v]
structure Tc (K : PySem.W.Frag) (C : Addr) : Prop where
  cls : Cls K C
  np : NoAttr K C "places"
  na : NoAttr K C "arrows"
def R_track (C : Addr) : Pr := fun ts Q _ => ∃ q n as, ts = [.at_ q (.obj C []), .v (.int n), .v (asD as)] ∧ Good n as ∧ Q (.v .non) [.at_ q (trT C n as), .v (.int n), .v (asD as)]
section
variable {P : Program} {w : World} {K : PySem.W.Frag} {mg : Str → Option Value} {base : Heap}
end
end Vl
end
section
set_option maxRecDepth 100000
namespace Vl
open PySem L2
def stepsOf (as : List Arw) (i : Int) : List Arw := as.filter fun a => a.1 == i
def wayT (as : List Arw) (i : Int) : List (Key × T) := (stepsOf as i).map fun a => (.inr a.2.1, .v (.tup [.int a.2.2.1, .int a.2.2.2]))
def wayD (as : List Arw) (i : Int) : List (Key × D) := (stepsOf as i).map fun a => (.inr a.2.1, .tup [.int a.2.2.1, .int a.2.2.2])
def waysT (n : Int) (as : List Arw) : List T := (List.range n.toNat).map fun i : Nat => .dic (wayT as i)
def waysD (n : Int) (as : List Arw) : List D := (List.range n.toNat).map fun i : Nat => .dic (wayD as i)
theorem waysT_d (n : Int) (as : List Arw) : (T.lst (waysT n as)).d = .lst (waysD n as) := by
  rw [T.d_lst, waysT, waysD, List.map_map]
  congr 1
  refine List.map_congr_left fun i _ => ?_
  simp [T.d_dic, wayT, wayD, List.map_map, Function.comp_def, T.d_v]
theorem kput_new {α : Type} {kvs : List (Key × α)} {k : Key} {x : α} (h : k ∉ kvs.map (·.1)) : kput kvs k x = kvs ++ [(k, x)] := by
  unfold kput
  cases e : kix kvs k with
  | none => rfl
  | some j => exact absurd (List.mem_of_getElem? (kix_some e).2) h
theorem set_map_range {α : Type} (n j : Nat) (f : Nat → α) (x : α) (hj : j < n) : ((List.range n).map f).set j x = (List.range n).map fun i => if i = j then x else f i := by
  refine List.ext_getElem (by simp) fun i h1 h2 => ?_
  simp only [List.getElem_set, List.getElem_map, List.getElem_range]
  by_cases e : j = i
  · rw [if_pos e, if_pos e.symm]
  · rw [if_neg e, if_neg (Ne.symm e)]
def R_ways_of (C : Addr) : Pr := fun ts Q _ => ∃ n as, ts = [.v (trD C n as)] ∧ Good n as ∧ Q (.lst (waysT n as)) ts
section
variable {P : Program} {w : World} {K : PySem.W.Frag} {mg : Str → Option Value} {base : Heap}
theorem steps_take {as : List Arw} {j : Nat} (hj : j < as.length) (i : Int) : stepsOf (as.take (j + 1)) i = if as[j].1 = i then stepsOf (as.take j) i ++ [as[j]] else stepsOf (as.take j) i := by
  unfold stepsOf
  rw [List.take_succ_eq_append_getElem hj, List.filter_append]
  by_cases e : as[j].1 = i
  · rw [if_pos e]; simp [e]
  · rw [if_neg e]; simp [e]
end
end Vl
end
section
set_option maxRecDepth 100000
namespace Vl
open PySem L2
def R_is_place (C : Addr) : Pr := fun ts Q _ => ∃ n as p, ts = [.v (trD C n as), .v (.int p)] ∧ 0 ≤ p ∧ p < n ∧ Q (.v (.bl true)) ts
def R_check_place (C : Addr) : Pr := fun ts Q _ => ∃ n as p, ts = [.v (trD C n as), .v (.int p)] ∧ 0 ≤ p ∧ p < n ∧ Q (.v .non) ts
theorem way_at {n : Int} {as : List Arw} {p : Int} (h0 : 0 ≤ p) (h1 : p < n) : atI (waysD n as) p = some (.dic (wayD as p)) := by
  obtain ⟨j, rfl⟩ : ∃ j : Nat, p = (j : Int) := ⟨p.toNat, by omega⟩
  refine at_nat ?_
  have : j < n.toNat := by omega
  simp [waysD, this]
section
variable {P : Program} {w : World} {K : PySem.W.Frag} {mg : Str → Option Value} {base : Heap}
theorem ev_ways {X : Cx} {ρ : Rho} {C : Addr} {n : Int} {as : List Arw} {p : Pos} {pos : Pos} {e : Expr} (Fw : Fn X.prog X.w X.K X.mg X.base 1 "ways_of" (R_ways_of C)) (hr : Room 1 X.A) (ok : Good n as) (he : Ev X e ρ (.v (trD C n as)) ρ) (hg : Gl X "ways_of" := by rfl)
    (hs : starEach [e] X.env = (false, eval e X.env) :: starEach [] X.env := by rfl) : Ev X (.Call (.Name "ways_of" p) [e] [] pos) ρ (.v (.lst (waysD n as))) ρ := by
  have := ev_frz (ev_callV (p := p) (pos := pos) (r := .lst (waysT n as)) [trD C n as] Fw hr (eva_cons he eva_nil hs) ⟨n, as, rfl, ok, rfl⟩ hg (by decide) hs)
  rwa [waysT_d] at this
end
end Vl
end
section
set_option maxRecDepth 100000
namespace Vl
open PySem L2
inductive Reach (as : List Arw) (p : Int) : Int → Prop
  | start : Reach as p p
  | step {x : Int} {a : Arw} : Reach as p x → a ∈ as → a.1 = x → Reach as p a.2.2.2
theorem Reach.range {n : Int} {as : List Arw} {p x : Int} (ok : Good n as) (h0 : 0 ≤ p) (h1 : p < n) (h : Reach as p x) : 0 ≤ x ∧ x < n := by
  cases h with
  | start => exact ⟨h0, h1⟩
  | step _ ha _ => exact ⟨(ok.ok _ ha).t0, (ok.ok _ ha).t1⟩
theorem nodup_le {α : Type} [DecidableEq α] : ∀ (l D : List α), l.Nodup → (∀ x ∈ l, x ∈ D) → l.length ≤ D.length
  | [], _, _, _ => Nat.zero_le _
  | x :: l, D, nd, h => by
    have hx : x ∈ D := h x (by simp)
    obtain ⟨nx, nl⟩ := List.nodup_cons.mp nd
    have := nodup_le l (D.erase x) nl fun y hy => (List.mem_erase_of_ne (fun e => nx (by rw [← e]; exact hy))).mpr (h y (by simp [hy]))
    rw [List.length_erase_of_mem hx] at this
    have : 0 < D.length := List.length_pos_of_mem hx
    rw [List.length_cons]
    omega
def seenT (S : List Int) : List (Key × T) := S.map fun x => (.inl x, .v (.bl true))
theorem seen_keys (S : List Int) : (seenT S).map (·.1) = S.map Sum.inl := by simp [seenT, List.map_map, Function.comp_def]
theorem seen_nd {S : List Int} (h : S.Nodup) : ((seenT S).map (·.1)).Nodup := by
  rw [seen_keys, List.Nodup, List.pairwise_map]
  exact h.imp fun {a b} h e => h (by injection e)
theorem seen_get (S : List Int) (x : Int) : (kget (seenT S) (.inl x)).isSome = decide (x ∈ S) := by
  unfold kget seenT
  induction S with
  | nil => rfl
  | cons y S ih =>
    rw [List.map_cons, List.find?_cons]
    by_cases e : y = x
    · subst e; simp
    · have : ¬ ((Sum.inl y : Key) = .inl x) := fun z => e (by injection z)
      simp only [this, decide_false]
      rw [ih]
      have : (x = y) = False := by simp; exact fun z => e z.symm
      simp [this]
theorem seen_put {S : List Int} {x : Int} (h : x ∉ S) : kput (seenT S) (.inl x) (.v (.bl true)) = seenT (S ++ [x]) := by
  rw [kput_new]
  · simp [seenT]
  · rw [seen_keys]
    intro z
    obtain ⟨y, hy, e⟩ := List.mem_map.mp z
    injection e with e
    exact h (e ▸ hy)
def R_reached (C : Addr) : Pr := fun ts Q _ => ∃ (n : Int) (as : List Arw) (p : Int) (ms : List Int), ts = [.v (trD C n as), .v (.int p)] ∧ Good n as ∧ 0 ≤ p ∧ p < n ∧ ms.Pairwise (· < ·) ∧ (∀ x, x ∈ ms ↔ Reach as p x) ∧ Q (.v (.tup (ms.map D.int))) ts
/-- ahead of a level: S seen, L the level -/
structure Lev (n : Int) (as : List Arw) (p : Int) (S L : List Int) : Prop where
  nd : S.Nodup
  st : p ∈ S
  re : ∀ x ∈ S, Reach as p x
  sub : ∀ x ∈ L, x ∈ S
  cl : ∀ a ∈ as, a.1 ∈ S → a.1 ∉ L → a.2.2.2 ∈ S
/-- within a level: D what has been gone through, S0 what was seen ahead of it -/
structure Mid (n : Int) (as : List Arw) (p : Int) (S0 A : List Int) (dn : Arw → Prop) : Prop where
  nd : (S0 ++ A).Nodup
  re : ∀ x ∈ S0 ++ A, Reach as p x
  cl : ∀ a ∈ as, dn a → a.2.2.2 ∈ S0 ++ A
theorem Lev.len {n : Int} {as : List Arw} {p : Int} {S : List Int} (ok : Good n as) (h0 : 0 ≤ p) (h1 : p < n) (nd : S.Nodup) (re : ∀ x ∈ S, Reach as p x) : S.length ≤ 12 := by
  have := nodup_le S ((List.range n.toNat).map fun i : Nat => (i : Int)) nd fun x hx => by
    obtain ⟨a, b⟩ := (re x hx).range ok h0 h1
    exact List.mem_map.mpr ⟨x.toNat, by simp; omega, by omega⟩
  simp at this
  have := ok.n2
  omega
section
variable {P : Program} {w : World} {K : PySem.W.Frag} {mg : Str → Option Value} {base : Heap}
end
end Vl
end
section
set_option maxRecDepth 100000
namespace Vl
open PySem L2
structure Pl where
  sd : Int
  cn : Int
  cs : List Int
section
variable {X : Cx} {e a b c o : Expr} {es rest : List Expr} {ρ ρ1 ρ2 ρ3 : Rho} {d x y z : D} {r t t1 u' : T} {ts us : List T} {pos p p2 : Pos} {i k : Nat} {f xa : Str} {R : Pr} {C : Addr}
end
section
variable {P : Program} {w : World} {K : PySem.W.Frag} {mg : Str → Option Value} {base : Heap}
end
end Vl
end
section
set_option maxRecDepth 100000
namespace Vl
open PySem L2
section
variable {X : Cx} {sts : List Stmt} {ρ ρ1 : Rho} {Z : Outs}
end
section
variable {P : Program} {w : World} {K : PySem.W.Frag} {mg : Str → Option Value} {base : Heap}
end
end Vl
end
section
set_option maxRecDepth 100000
namespace Vl
open PySem L2
def chr (c : Nat) : Str := ⟨#[c]⟩
theorem chr_inj {a b : Nat} (h : chr a = chr b) : a = b := by
  unfold chr at h
  injection h with h
  simpa using h
def srt (cs : List Nat) : List Nat := cs.mergeSort fun a b => decide (a ≤ b)
section
variable {P : Program} {w : World} {K : PySem.W.Frag} {mg : Str → Option Value} {base : Heap}
end
end Vl
end
section
set_option maxRecDepth 100000
namespace Vl
open PySem L2
def toldD (n : Int) (as : List Arw) : D := .tup [.int n, asD as]
/-- told, pays any in 0..9 -/
structure Fit (n : Int) (as : List Arw) : Prop where
  n1 : 1 ≤ n
  n2 : n ≤ 12
  l2 : as.length ≤ 60
  p : ∀ a ∈ as, 0 ≤ a.2.2.1 ∧ a.2.2.1 ≤ 9
section
variable {P : Program} {w : World} {K : PySem.W.Frag} {mg : Str → Option Value} {base : Heap}
end
end Vl
end
section
set_option maxRecDepth 100000
namespace Vl
open PySem L2
section
variable {P : Program} {w : World} {K : PySem.W.Frag} {mg : Str → Option Value} {base : Heap}
end
end Vl
end
section
set_option maxRecDepth 100000
namespace Vl
open PySem L2
structure SignsOk (cs : List Nat) : Prop where
  nd : cs.Nodup
  rg : ∀ c ∈ cs, 97 ≤ c ∧ c ≤ 122
  len : cs.length ≤ 4
  ne : cs ≠ []
/-! ### what is found -/
structure FoundOk (cs : List Nat) (n i : Int) (F : List Arw) : Prop where
  ok : ∀ a ∈ F, 0 ≤ a.1 ∧ a.1 < i ∧ (∃ c ∈ cs, a.2.1 = chr c) ∧ 0 ≤ a.2.2.1 ∧ a.2.2.1 ≤ 9 ∧ 0 ≤ a.2.2.2 ∧ a.2.2.2 < n
  tw : (F.map fun a => (a.1, a.2.1)).Nodup
  all : ∀ j : Int, 0 ≤ j → j < i → ∃ a ∈ F, a.1 = j
end Vl
end
section
set_option maxRecDepth 100000
namespace Vl
open PySem L2
structure MidF (cs : List Nat) (n i : Int) (S : List Nat) (k : Nat) (F : List Arw) : Prop where
  ok : ∀ a ∈ F, 0 ≤ a.1 ∧ a.1 < i + 1 ∧ (∃ c ∈ cs, a.2.1 = chr c) ∧ 0 ≤ a.2.2.1 ∧ a.2.2.1 ≤ 9 ∧ 0 ≤ a.2.2.2 ∧ a.2.2.2 < n
  tw : (F.map fun a => (a.1, a.2.1)).Nodup
  old : ∀ j : Int, 0 ≤ j → j < i → ∃ a ∈ F, a.1 = j
  cur : ∀ a ∈ F, a.1 = i → ∃ c ∈ S.take k, a.2.1 = chr c
  now : 1 ≤ k → ∃ a ∈ F, a.1 = i
theorem MidF.start {cs : List Nat} {n i : Int} {S : List Nat} {F : List Arw} (h : FoundOk cs n i F) : MidF cs n i S 0 F :=
  ⟨fun a ha => let ⟨h1, h2, h3⟩ := h.ok a ha; ⟨h1, by omega, h3⟩, h.tw, h.all, fun a ha e => by have := (h.ok a ha).2.1; omega, fun h => absurd h (by decide)⟩
theorem MidF.step {cs : List Nat} {n i : Int} {S : List Nat} {k : Nat} {F : List Arw} {c : Nat} {p t : Int} (h : MidF cs n i S k F) (nd : S.Nodup) (hk : k < S.length) (hc : S.getD k 0 = c) (hcs : c ∈ cs) (i0 : 0 ≤ i) (p0 : 0 ≤ p) (p1 : p ≤ 9) (t0 : 0 ≤ t) (t1 : t < n) : MidF cs n i S (k + 1) (F ++ [(i, chr c, p, t)]) := by
  have hck : S[k] = c := by rw [← hc]; simp [List.getD_eq_getElem?_getD, hk]
  have htk : S.take (k + 1) = S.take k ++ [c] := by rw [List.take_succ_eq_append_getElem hk, hck]
  have hnot : c ∉ S.take k := fun z => by
    have nd2 : (S.take (k + 1)).Nodup := nd.sublist (List.take_sublist _ _)
    rw [htk] at nd2
    exact (List.nodup_append.mp nd2).2.2 c z c (by simp) rfl
  refine ⟨fun a ha => ?_, ?_, fun j h0 h1 => ?_, fun a ha e => ?_, fun _ => ⟨(i, chr c, p, t), by simp, rfl⟩⟩
  · rcases List.mem_append.mp ha with z | z
    · exact h.ok a z
    · simp at z; subst z
      exact ⟨i0, by dsimp only; omega, ⟨c, hcs, rfl⟩, p0, p1, t0, t1⟩
  · rw [List.map_append]
    refine List.nodup_append.mpr ⟨h.tw, by simp, fun x hx y hy e => ?_⟩
    obtain ⟨b, hb, rfl⟩ := List.mem_map.mp hx
    simp at hy
    subst hy
    simp only [Prod.mk.injEq] at e
    obtain ⟨c', hc', e'⟩ := h.cur b hb e.1
    have : c = c' := chr_inj (e.2.symm.trans e')
    subst this
    exact hnot hc'
  · obtain ⟨a, ha, e⟩ := h.old j h0 h1
    exact ⟨a, List.mem_append_left _ ha, e⟩
  · rw [htk]
    rcases List.mem_append.mp ha with z | z
    · obtain ⟨c', hc', e'⟩ := h.cur a z e
      exact ⟨c', List.mem_append_left _ hc', e'⟩
    · simp at z; subst z
      exact ⟨c, by simp, rfl⟩
theorem MidF.done {cs : List Nat} {n i : Int} {S : List Nat} {F : List Arw} (h : MidF cs n i S S.length F) (hne : S ≠ []) : FoundOk cs n (i + 1) F := by
  refine ⟨h.ok, h.tw, fun j h0 h1 => ?_⟩
  by_cases e : j = i
  · subst e; exact h.now (List.length_pos_iff.mpr hne)
  · exact h.old j h0 (by omega)
section
variable {P : Program} {w : World} {K : PySem.W.Frag} {mg : Str → Option Value} {base : Heap}
end
end Vl
end
section
set_option maxRecDepth 100000
namespace Vl
open PySem L2
section
variable {P : Program} {w : World} {K : PySem.W.Frag} {mg : Str → Option Value} {base : Heap}
end
end Vl
end
section
set_option maxRecDepth 100000
namespace Vl
open PySem L2
def upTo (n : Int) : List Int := (List.range n.toNat).map fun i : Nat => (i : Int)
theorem upTo_lt (n : Int) : (upTo n).Pairwise (· < ·) := by
  unfold upTo
  rw [List.pairwise_map]
  exact List.pairwise_lt_range.imp fun {a b} h => by omega
theorem mem_upTo {n x : Int} : x ∈ upTo n ↔ 0 ≤ x ∧ x < n := by
  unfold upTo
  rw [List.mem_map]
  constructor
  · rintro ⟨i, hi, rfl⟩
    simp at hi
    omega
  · rintro ⟨h0, h1⟩
    exact ⟨x.toNat, by simp; omega, by omega⟩
section
variable {P : Program} {w : World} {K : PySem.W.Frag} {mg : Str → Option Value} {base : Heap}
end
end Vl
end
section
set_option maxRecDepth 100000
namespace Vl
open PySem L2
open Classical in
theorem reach_list {n : Int} {as : List Arw} {p : Int} (ok : Good n as) (h0 : 0 ≤ p) (h1 : p < n) : ∃ ms : List Int, ms.Pairwise (· < ·) ∧ ∀ x, x ∈ ms ↔ Reach as p x :=
  ⟨(upTo n).filter fun x => decide (Reach as p x), List.Pairwise.filter _ (upTo_lt n), fun x => by
    rw [List.mem_filter, mem_upTo]
    constructor
    · rintro ⟨_, z⟩; simpa using z
    · intro z; exact ⟨z.range ok h0 h1, by simpa using z⟩⟩
section
variable {P : Program} {w : World} {K : PySem.W.Frag} {mg : Str → Option Value} {base : Heap}
theorem fnok_v {x qual : Str} {st : Stmt} {f : Addr} {fd : FuncData} {N ps : List Str} {k : Nat} {R : Pr} (F : Fun K x qual st f fd) (S' : FnScope N ps (defScope st)) 
    (hR : ∀ ts Qt Qx, R ts Qt Qx → ∃ ds : List D, ts = ds.map T.v ∧ ds.length = ps.length) (hN : ps.length ≤ N.length)
    (hbody : ∀ (cdv : Value) (A : Around) (outer : List Env) (s : Shared) (H : Hp) (E : XK) (ds : List D) (Qt : T → List T → Prop) (Qx : Xn → Prop), Room k (cxD P w K mg base N qual st f cdv A outer s H E).A → R (ds.map T.v) Qt Qx →
      S (cxD P w K mg base N qual st f cdv A outer s H E) (defBody st) ((ds.map fun d => some (T.v d)) ++ List.replicate (N.length - ds.length) none) { nx := fun _ => Qt (.v .non) (ds.map T.v), rt := fun r _ => Qt r (ds.map T.v), ex := fun x _ => Qx x }) : FnOk P w K mg base (L2.CX P w) (k + 1) f fd ps (spF K R) := by
  refine F.okX S' (fun vs H Q E h => ?_) (fun cdv A outer s H vs Q E hr h => ?_)
  · obtain ⟨B, F0, ts, Qt, Qx, hl, _, h, _⟩ := h
    obtain ⟨ds, rfl, hd⟩ := hR _ _ _ h
    rw [hl]; simpa using hd
  · obtain ⟨B, F0, ts, Qt, Qx, hl, R0, h, k1, k2⟩ := h
    obtain ⟨ds, rfl, hd⟩ := hR _ _ _ h
    have hl' : vs.length = ds.length := by simpa using hl
    obtain ⟨F', RF⟩ := R0
    have hden : DenL K F' vs ds := by
      obtain ⟨A', _, _, _, _, o, _⟩ := RF
      have o' : OwnS K F' H (vs.map some) (ds.map fun d => some (T.v d)) A' := by simpa [List.map_map, Function.comp_def] using o
      exact (OwnS.allv o').2
    refine ⟨_, pss_u _ _, ?_⟩
    have R1 : Rl K B F' ((ds.map fun d => some (T.v d)) ++ List.replicate (N.length - ds.length) none) (L2.start N vs) H := by
      obtain ⟨A', e0, e1, e2, dm, o, nd, fr⟩ := RF.self
      have o' : OwnS K F' H (vs.map some) (ds.map fun d => some (T.v d)) A' := by simpa [List.map_map, Function.comp_def] using o
      have pad : ∀ n, OwnS K F' H (List.replicate n none) (List.replicate n none) [] := fun n => by
        induction n with
        | zero => exact .nil
        | succ n ih => exact .skip ih
      refine ⟨F', A' ++ [], e0, e1, e2, dm, ?_, by simpa using nd, fun a ha => fr a (by simpa using ha)⟩
      unfold L2.start
      rw [hl']
      exact o'.append (pad _)
    have back : ∀ {r : T} {v : V} {ρ2 : Rho} {σ2 : St} {H2 : Hp}, Rl K B F' (some r :: ρ2) (some v :: σ2) H2 → Rl K B F0 (some r :: (ds.map T.v).map some) (some v :: vs.map some) H2 := fun {r v ρ2 σ2 H2} R2 => by
      have R3 := Rl.takeN (ρ1 := [some r]) (σ1 := [some v]) rfl R2
      exact RF.reL (Rl.tailv hden R3)
    refine hbody cdv A outer s H E ds Qt Qx hr h B F' (L2.start N vs) H _ (fun cls d _ H2 => E cls d H2) (takes_of rfl rfl rfl rfl) R1 ⟨fun ρ2 σ2 H2 q R2 => ?_, fun r ρ2 v σ2 H2 q R2 => ?_, fun _ _ _ q => q.elim, fun _ _ _ q => q.elim, fun x' ρ2 cls d F2 σ2 H2 q R2 hx => ?_⟩
    · exact k1 _ _ _ H2 q (back (R2.pushS fun _ => .non))
    · exact k1 _ _ _ H2 q (back R2)
    · refine k2 x' cls d F2 H2 q ?_ hx
      have R3 := RF.re R2
      obtain ⟨A', e0, e1, e2, dm, o, nd, fr⟩ := R3
      exact ⟨[], e0, e1, e2, dm, .nil, List.nodup_nil, fun a ha => by cases ha⟩
end
end Vl
end
section
set_option maxRecDepth 100000
namespace Vl
open PySem L2
/-- the def called x lies in the globals, and takes ps -/
def Df (K : PySem.W.Frag) (mg : Str → Option Value) (x : Str) (st : Stmt) (ps : List Str) : Prop := ∃ (f : Addr) (fd : FuncData), Fun K x x st f fd ∧ mg x = some (.ref f) ∧ Binds K fd ps []
section
variable {P : Program} {w : World} {K : PySem.W.Frag} {mg : Str → Option Value} {base : Heap}
end
end Vl
end
section
set_option maxRecDepth 100000
/-! Vm1: comprehensions and loops by the list that is walked, not by numbers. -/
namespace Vl
open PySem L2
/-- the things that are walked, as a list -/
def IterL (X : Cx) (tg it : Expr) (ρ ρ1 : Rho) (ds : List D) : Prop := Iter X tg it ρ ρ1 ds.length (fun i => ds.getD i .non)
section
variable {X : Cx} {tg it e a b c elt : Expr} {ifs : List Expr} {scope : Scope} {own : List (Str × Nat)} {ρ ρ1 ρ2 ρ3 ρF : Rho} {d x y z : D} {r t : T} {ts : List T} {ds : List D} {kvs : List (Key × D)} {pos p p2 apos cpos px : Pos} {i k n : Nat} {f xa : Str} {Z : Outs} {body : List Stmt}
theorem IterL.as {ds' : List D} (h : IterL X tg it ρ ρ1 ds) (e : ds = ds') : IterL X tg it ρ ρ1 ds' := e ▸ h
end
end Vl
end
section
set_option maxRecDepth 100000
/-! Wp1: what a code needs, reckoned from its end: expressions. -/
namespace Vl
open PySem L2
abbrev EX := Xn → Rho → Prop
abbrev EX0 : EX := fun _ _ => False
def EvX (X : Cx) (e : Expr) (ρ : Rho) (Φ : T → Rho → Prop) (Ξ : EX) : Prop :=
  ∀ (B F0 : Hp) (st : Rho) (vst σ : St) (H : Hp) (Q : VK) (Wx : WX), Takes X Wx → vst.length = st.length → Rl X.K B F0 (st ++ ρ) (vst ++ σ) H →
    (∀ r ρ1 v H', Φ r ρ1 → Rl X.K B F0 (some r :: (st ++ ρ1)) (some v :: (vst ++ σ)) H' → Q v H') →
    (∀ x ρ1 cls d F H', Ξ x ρ1 → RlF X.K B F0 F (st ++ ρ1) (vst ++ σ) H' → XDen X.K F x cls d → Wx cls d σ H') → tE X e σ H Q
def TvX (X : Cx) (e : Expr) (ρ : Rho) (Φ : Bool → Rho → Prop) (Ξ : EX) : Prop :=
  ∀ (B F0 : Hp) (st : Rho) (vst σ : St) (H : Hp) (Q : Bool → Hp → Prop) (Wx : WX), Takes X Wx → vst.length = st.length → Rl X.K B F0 (st ++ ρ) (vst ++ σ) H →
    (∀ b ρ1 H', Φ b ρ1 → Rl X.K B F0 (st ++ ρ1) (vst ++ σ) H' → Q b H') →
    (∀ x ρ1 cls d F H', Ξ x ρ1 → RlF X.K B F0 F (st ++ ρ1) (vst ++ σ) H' → XDen X.K F x cls d → Wx cls d σ H') → tTt X e σ H Q
def TwX (X : Cx) (e : Expr) (ρ : Rho) (Φ : Bool → Rho → Prop) (Ξ : EX) : Prop :=
  ∀ (B F0 : Hp) (st : Rho) (vst σ : St) (H : Hp) (Q : Bool → Hp → Prop) (Wx : WX), Takes X Wx → vst.length = st.length → Rl X.K B F0 (st ++ ρ) (vst ++ σ) H →
    (∀ b ρ1 H', Φ b ρ1 → Rl X.K B F0 (st ++ ρ1) (vst ++ σ) H' → Q b H') →
    (∀ x ρ1 cls d F H', Ξ x ρ1 → RlF X.K B F0 F (st ++ ρ1) (vst ++ σ) H' → XDen X.K F x cls d → Wx cls d σ H') → tW X e σ H Q
/-- arguments, all let go -/
def AvX (X : Cx) (es : List Expr) (ρ : Rho) (Φ : List D → Rho → Prop) (Ξ : EX) : Prop :=
  ∀ (B F0 : Hp) (st : Rho) (vst σ : St) (H : Hp) (Q : List V → Hp → Prop) (Wx : WX), Takes X Wx → vst.length = st.length → Rl X.K B F0 (st ++ ρ) (vst ++ σ) H →
    (∀ ds ρ1 vs H', Φ ds ρ1 → vs.length = ds.length → Rl X.K B F0 ((ds.map fun d => some (T.v d)) ++ (st ++ ρ1)) (vs.map some ++ (vst ++ σ)) H' → Q vs H') →
    (∀ x ρ1 cls d F H', Ξ x ρ1 → RlF X.K B F0 F (st ++ ρ1) (vst ++ σ) H' → XDen X.K F x cls d → Wx cls d σ H') → tA X es σ H Q
/-- arguments as they are -/
def AvT (X : Cx) (es : List Expr) (ρ : Rho) (Φ : List T → Rho → Prop) (Ξ : EX) : Prop :=
  ∀ (B F0 : Hp) (st : Rho) (vst σ : St) (H : Hp) (Q : List V → Hp → Prop) (Wx : WX), Takes X Wx → vst.length = st.length → Rl X.K B F0 (st ++ ρ) (vst ++ σ) H →
    (∀ ts ρ1 vs H', Φ ts ρ1 → vs.length = ts.length → Rl X.K B F0 (ts.map some ++ (st ++ ρ1)) (vs.map some ++ (vst ++ σ)) H' → Q vs H') →
    (∀ x ρ1 cls d F H', Ξ x ρ1 → RlF X.K B F0 F (st ++ ρ1) (vst ++ σ) H' → XDen X.K F x cls d → Wx cls d σ H') → tA X es σ H Q
abbrev WE := Rho → (T → Rho → Prop) → EX → Prop
abbrev WT := Rho → (Bool → Rho → Prop) → EX → Prop
abbrev WA := Rho → (List D → Rho → Prop) → EX → Prop
abbrev WAT := Rho → (List T → Rho → Prop) → EX → Prop
def RfE (X : Cx) (e : Expr) (w : WE) : Prop := ∀ ρ Φ Ξ, w ρ Φ Ξ → EvX X e ρ Φ Ξ
def RfT (X : Cx) (e : Expr) (w : WT) : Prop := ∀ ρ Φ Ξ, w ρ Φ Ξ → TvX X e ρ Φ Ξ
def RfW (X : Cx) (e : Expr) (w : WT) : Prop := ∀ ρ Φ Ξ, w ρ Φ Ξ → TwX X e ρ Φ Ξ
def RfA (X : Cx) (es : List Expr) (w : WA) : Prop := ∀ ρ Φ Ξ, w ρ Φ Ξ → AvX X es ρ Φ Ξ
def RfAT (X : Cx) (es : List Expr) (w : WAT) : Prop := ∀ ρ Φ Ξ, w ρ Φ Ξ → AvT X es ρ Φ Ξ
/-- what a slot holds -/
def slot : Rho → Nat → Option T
  | [], _ => none
  | o :: _, 0 => o
  | _ :: r, n + 1 => slot r n
theorem slot_get : ∀ {ρ : Rho} {i : Nat} {t : T}, slot ρ i = some t → ρ[i]? = some (some t)
  | [], _, _, h => by simp [slot] at h
  | o :: _, 0, _, h => by simp [slot] at h; simp [h]
  | _ :: r, n + 1, _, h => by
    simp only [slot] at h
    simpa using slot_get h
section
variable {K : PySem.W.Frag} {B F0 F H : Hp} {ρ st : Rho} {σ vst : St} {v u : V} {r s : T}
theorem RlF.drop (h : RlF K B F0 F (some r :: ρ) (some v :: σ) H) : RlF K B F0 F ρ σ H := by
  obtain ⟨A, e0, e1, e2, dm, o, nd, fr⟩ := h
  cases o with
  | @cons _ _ _ _ A1 A2 o1 o2 => exact ⟨A2, e0, e1, e2, dm, o2, (List.nodup_append.mp nd).2.1, fun a ha => fr a (by simp [ha])⟩
theorem RlF.drop' (h : RlF K B F0 F ((some r :: st) ++ ρ) ((some v :: vst) ++ σ) H) : RlF K B F0 F (st ++ ρ) (vst ++ σ) H := RlF.drop h
theorem Rl.frz2 (h : Rl K B F0 (some s :: some r :: ρ) (some u :: some v :: σ) H) : Rl K B F0 (some (.v s.d) :: some (.v r.d) :: ρ) (some u :: some v :: σ) H := by
  have := Rl.freezeN (ts := [s, r]) (vs := [u, v]) (ρ := ρ) (σ := σ) h rfl
  simpa using this
end
section
variable {X : Cx} {e a b c : Expr} {es rest : List Expr} {ρ ρ1 : Rho} {Φ : T → Rho → Prop} {Ξ : EX} {wa wb wc : WE} {ta tb : WT} {pos p p2 : Pos} {r : T}
theorem EvX.of (h : Ev X e ρ r ρ1) (k : Φ r ρ1) : EvX X e ρ Φ Ξ := fun B F0 st vst σ H Q Wx tk hl R kk kx => h B F0 st vst σ H Q hl R fun v H' R' => kk r ρ1 v H' k R'
/-! ### constants, names -/
def wD (d : D) : WE := fun ρ Φ _ => Φ (.v d) ρ
theorem rf_int {n : Int} {j} : RfE X (.Constant (.int n) j pos) (wD (.int n)) := fun ρ Φ Ξ h => .of ev_int h
theorem rf_bl {n : Bool} {j} : RfE X (.Constant (.bool n) j pos) (wD (.bl n)) := fun ρ Φ Ξ h => .of ev_bl h
theorem rf_non {j} : RfE X (.Constant .none j pos) (wD .non) := fun ρ Φ Ξ h => .of ev_non h
theorem rf_str {n : Str} {j} : RfE X (.Constant (.str n) j pos) (wD (.str n)) := fun ρ Φ Ξ h => .of ev_str h
theorem rf_globI {x : Str} {n : Int} {t} (hm : X.mg x = some (.int n t)) (hg : Gl X x := by rfl) (hdb : (x == ("__debug__" : Str)) = false := by decide) : RfE X (.Name x pos) (wD (.int n)) := fun ρ Φ Ξ h => .of (ev_glob (v := .int n) hg hm ⟨t, rfl⟩ (fun _ => .int n) hdb) h
/-- a name read; owned data is let go -/
def wVar (i : Nat) : WE := fun ρ Φ _ => match slot ρ i with
  | some (.v d) => Φ (.v d) ρ
  | some t => Φ (.v t.d) (ρ.set i (some (.v t.d)))
  | none => False
/-- a name whose data is taken along -/
def wMov (i : Nat) : WE := fun ρ Φ _ => match slot ρ i with
  | some t => Φ t (ρ.set i none)
  | none => False
theorem rf_var {x : Str} (i : Nat) (hN : X.N[i]? = some x := by rfl) (hv : Vis X.env.scope x := by first | exact Or.inl rfl | exact Or.inr (Or.inl rfl) | exact Or.inr (Or.inr rfl)) (hd : (x == ("__debug__" : Str)) = false := by decide)
    (hcd : (x == ("__classdict__" : Str)) = false := by decide) : RfE X (.Name x pos) (wVar i) := fun ρ Φ Ξ h => by
  unfold wVar at h
  split at h
  · exact .of (ev_var i (slot_get (by assumption)) hN hv hd hcd) h
  · exact .of (ev_varF i (slot_get (by assumption)) hN hv hd hcd) h
  · exact h.elim
theorem rf_mov {x : Str} (i : Nat) (hN : X.N[i]? = some x := by rfl) (hv : Vis X.env.scope x := by first | exact Or.inl rfl | exact Or.inr (Or.inl rfl) | exact Or.inr (Or.inr rfl)) (hd : (x == ("__debug__" : Str)) = false := by decide)
    (hcd : (x == ("__classdict__" : Str)) = false := by decide) : RfE X (.Name x pos) (wMov i) := fun ρ Φ Ξ h => by
  unfold wMov at h
  split at h
  · exact .of (ev_varM i (slot_get (by assumption)) hN hv hd hcd) h
  · exact h.elim
end
end Vl
end
section
set_option maxRecDepth 100000
/-! Wp2: operators, comparisons, and / or / not, conditional expressions. -/
namespace Vl
open PySem L2
/-! ### two-place operations on data that is let go -/
theorem opr_u {X : Cx} {f : Value → Value → Sem Value} : OpR X f (fun v u H Q => ∃ q, OpR X f q ∧ q v u H Q) := fun pins s σ H x y v u Q I rx ry h => let ⟨_, p, q⟩ := h; p pins s σ H x y v u Q I rx ry q
def OpX (X : Cx) (f : Value → Value → Sem Value) (x y : D) (Φ : T → Prop) : Prop :=
  ∀ (B F0 : Hp) (ρ : Rho) (σ : St) (H : Hp) (v u : V) (Q : VK), Rl X.K B F0 (some (.v y) :: some (.v x) :: ρ) (some u :: some v :: σ) H →
    (∀ t w H', Φ t → Rl X.K B F0 (some t :: ρ) (some w :: σ) H' → Q w H') → ∃ q, OpR X f q ∧ q v u H Q
section
variable {X : Cx} {f : Value → Value → Sem Value} {q : R2} {x y z : D} {us : List D} {Φ : T → Prop}
theorem opx_plain (ho : OpR X f q) (hr : ∀ (H : Hp) (v u : V) (Q : VK), Den X.K H v x → Den X.K H u y → (∀ w, (∀ F, Den X.K F w z) → Q w H) → q v u H Q) (k : Φ (.v z)) : OpX X f x y Φ :=
  fun B F0 ρ σ H v u Q R kk => ⟨q, ho, hr H v u Q R.drop.den R.den fun w hw => kk _ w H k (R.drop.drop.pushS hw)⟩
theorem opx_lst (ho : OpR X f q) (hr : ∀ (F H : Hp) (v u : V) (Q : VK), Sub F H → Den X.K F v x → Den X.K F u y → (∀ ws p, DenL X.K F ws us → H p = none → Q (.ref p) (upd H p (.lst ws))) → q v u H Q) (k : Φ (.lst (us.map T.v))) : OpX X f x y Φ :=
  fun B F0 ρ σ H v u Q R kk => by
    obtain ⟨F, eF, hd, _, mk, _⟩ := Rl.elimN (ds := [y, x]) (vs := [u, v]) (ρ := ρ) (σ := σ) R rfl
    obtain ⟨u', v', e, d1, d2⟩ := denl2 hd
    cases e
    exact ⟨q, ho, hr F H v u Q eF d2 d1 fun ws p hw hp => kk _ _ _ k (mk ws us p hw hp)⟩
theorem opx_tup (ho : OpR X f q) (hr : ∀ (F H : Hp) (v u : V) (Q : VK), Sub F H → Den X.K F v x → Den X.K F u y → (∀ w, Den X.K F w (.tup us) → Q w H) → (∀ ws p, DenL X.K F ws us → H p = none → Q (.ref p) (upd H p (.tup ws))) → q v u H Q) (k : Φ (.v (.tup us))) : OpX X f x y Φ :=
  fun B F0 ρ σ H v u Q R kk => by
    obtain ⟨F, eF, hd, mk1, _, mk⟩ := Rl.elimN (ds := [y, x]) (vs := [u, v]) (ρ := ρ) (σ := σ) R rfl
    obtain ⟨u', v', e, d1, d2⟩ := denl2 hd
    cases e
    exact ⟨q, ho, hr F H v u Q eF d2 d1 (fun w hw => kk _ w H k (mk1 w _ hw)) fun ws p hw hp => kk _ _ _ k (mk ws us p hw hp)⟩
end
def rCatS (K : PySem.W.Frag) : R2 := fun x y H Q => ∃ l b xs zs, x = .ref l ∧ y = .ref b ∧ SqL K H l xs ∧ SqL K H b zs ∧ xs.length + zs.length ≤ sizeLine ∧ ∀ p, H p = none → Q (.ref p) (upd H p (.lst (xs ++ zs)))
theorem op_catS {X : Cx} : OpR X (binaryOp .Add) (rCatS X.K) := by
  intro pins s σ H x y v u Q I rx ry h
  obtain ⟨l, b, xs, zs, rfl, rfl, hH, hB, hz, q⟩ := h
  cases rx
  cases ry
  obtain ⟨its, r, pl, hl⟩ := I.list hH
  obtain ⟨its2, r2, pl2, hl2⟩ := I.list hB
  obtain ⟨⟨cls, dd, data, sl⟩, ho, hc, n, hd⟩ := id pl.isList
  obtain ⟨⟨cls2, dd2, data2, sl2⟩, ho2, hc2, n2, hd2⟩ := id pl2.isList
  simp only at hc hd hc2 hd2
  subst hc hd hc2 hd2
  have e1 := r.length
  have e2 := r2.length
  have e : its.toArray ++ its2.toArray = (its ++ its2).toArray := by simp
  refine concat_meets ⟨_, ho, rfl⟩ ⟨_, ho2, rfl⟩ noFill_list_add seq_list_add PySem.F.slot_list_add PySem.F.entry_list_add (PySem.F.args_list_add_2 _ _) (PyProof.Rows.list_addW l b its.toArray its2.toArray n n2 dd dd2 sl sl2 (by simp; omega)) ⟨ho, ho2, ?_⟩
  rw [e]
  exact ⟨.ref _, _, I.lnew (t' := s.toks) (r.append r2) (by rw [List.length_append]; omega), rfl, q _ I.fresh⟩
def binW : Operator → D → D → (T → Prop) → Prop
  | .Add, .int i, .int j, k => k (.v (.int (i + j)))
  | .Add, .str s, .str t, k => s.length + t.length ≤ 100000 ∧ k (.v (.str (s ++ t)))
  | .Add, .lst a, .lst b, k => a.length + b.length ≤ 100000 ∧ k (.lst ((a ++ b).map T.v))
  | .Add, .tup a, .tup b, k => a.length + b.length ≤ 100000 ∧ k (.v (.tup (a ++ b)))
  | .Sub, .int i, .int j, k => k (.v (.int (i - j)))
  | .Mult, .int i, .int j, k => (CMul i j ∨ CMulX i j) ∧ k (.v (.int (i * j)))
  | .FloorDiv, .int i, .int j, k => (CDiv i j ∨ CDivW i j) ∧ k (.v (.int (i / j)))
  | .Mod, .int i, .int j, k => 0 < j ∧ k (.v (.int (i % j)))
  | .Pow, .int i, .int j, k => CPow i j ∧ k (.v (.int (i ^ j.toNat)))
  | .LShift, .int i, .int j, k => CPow i j ∧ k (.v (.int (i * 2 ^ j.toNat)))
  | .RShift, .int i, .int j, k => 0 ≤ j ∧ k (.v (.int (i / 2 ^ j.toNat)))
  | .BitAnd, .int i, .int j, k => k (.v (.int (Builtin.bitAnd i j)))
  | _, _, _, _ => False
theorem DenL.app {K : PySem.W.Frag} {F : Hp} : ∀ {xs : List V} {ds : List D} {ys : List V} {es : List D}, DenL K F xs ds → DenL K F ys es → DenL K F (xs ++ ys) (ds ++ es)
  | _, _, _, _, .nil, h => h
  | _, _, _, _, .cons h t, q => .cons h (DenL.app t q)
section
variable {X : Cx}
theorem binW_ok {op : Operator} {x y : D} {Φ : T → Prop} (h : binW op x y Φ) : OpX X (binaryOp op) x y Φ := by
  unfold binW at h
  split at h
  · exact opx_plain op_add (fun H v u Q hv hu k => by obtain ⟨rfl, rfl⟩ := den_ii hv hu; exact ⟨_, _, rfl, rfl, k _ fun _ => .int _⟩) h
  · exact opx_plain op_add_str (fun H v u Q hv hu k => by obtain ⟨rfl, rfl⟩ := den_ss hv hu; exact ⟨_, _, rfl, rfl, by rw [sizeLine_eq]; omega, k _ fun _ => .str _⟩) h.2
  · rename_i a b
    refine opx_lst (us := a ++ b) op_catS (fun F H v u Q eF hv hu k => ?_) h.2
    cases hv with
    | lst h1 q1 =>
      cases hu with
      | lst h2 q2 => exact ⟨_, _, _, _, rfl, rfl, eF.sqL h1, eF.sqL h2, by rw [q1.length, q2.length, sizeLine_eq]; omega, fun p hp => k _ p (DenL.app q1 q2) hp⟩
  · rename_i a b
    refine opx_tup (us := a ++ b) op_catA (fun F H v u Q eF hv hu k1 k2 => ?_) h.2
    cases hv with
    | tup h1 q1 =>
      cases hu with
      | tup h2 q2 =>
        refine ⟨_, _, _, _, rfl, rfl, SqT.of (eF.t h1), SqT.of (eF.t h2), by rw [q1.length, q2.length, sizeLine_eq]; omega, fun e => k1 _ ?_, fun _ e => k1 _ ?_, fun _ _ p hp => k2 _ p (DenL.app q1 q2) hp⟩
        · subst e; cases q1; exact .tup h2 q2
        · subst e; cases q2; rw [List.append_nil]; exact .tup h1 q1
  · exact opx_plain op_sub (fun H v u Q hv hu k => by obtain ⟨rfl, rfl⟩ := den_ii hv hu; exact ⟨_, _, rfl, rfl, k _ fun _ => .int _⟩) h
  · rcases h with ⟨h | h, k⟩
    · exact opx_plain op_mul (fun H v u Q hv hu k => by obtain ⟨rfl, rfl⟩ := den_ii hv hu; exact ⟨_, _, rfl, rfl, h, k _ fun _ => .int _⟩) k
    · exact opx_plain op_mulX (fun H v u Q hv hu k => by obtain ⟨rfl, rfl⟩ := den_ii hv hu; exact ⟨_, _, rfl, rfl, h, k _ fun _ => .int _⟩) k
  · rcases h with ⟨h | h, k⟩
    · exact opx_plain op_fdiv (fun H v u Q hv hu k => by obtain ⟨rfl, rfl⟩ := den_ii hv hu; exact ⟨_, _, rfl, rfl, h, k _ fun _ => .int _⟩) k
    · exact opx_plain op_fdivW (fun H v u Q hv hu k => by obtain ⟨rfl, rfl⟩ := den_ii hv hu; exact ⟨_, _, rfl, rfl, h, k _ fun _ => .int _⟩) k
  · exact opx_plain op_mod (fun H v u Q hv hu k => by obtain ⟨rfl, rfl⟩ := den_ii hv hu; exact ⟨_, _, rfl, rfl, h.1, k _ fun _ => .int _⟩) h.2
  · exact opx_plain op_pow (fun H v u Q hv hu k => by obtain ⟨rfl, rfl⟩ := den_ii hv hu; exact ⟨_, _, rfl, rfl, h.1, k _ fun _ => .int _⟩) h.2
  · exact opx_plain op_shl (fun H v u Q hv hu k => by obtain ⟨rfl, rfl⟩ := den_ii hv hu; exact ⟨_, _, rfl, rfl, h.1, k _ fun _ => .int _⟩) h.2
  · exact opx_plain op_shr (fun H v u Q hv hu k => by obtain ⟨rfl, rfl⟩ := den_ii hv hu; exact ⟨_, _, rfl, rfl, h.1, k _ fun _ => .int _⟩) h.2
  · exact opx_plain op_and (fun H v u Q hv hu k => by obtain ⟨rfl, rfl⟩ := den_ii hv hu; exact ⟨_, _, rfl, rfl, k _ fun _ => .int _⟩) h
  · exact h.elim
end
def rDIn : R2 := fun y x H Q => ∃ a ov, x = .ref a ∧ DGet H a y ov ∧ Q (.bl ov.isSome) H
def rDNotIn : R2 := fun y x H Q => ∃ a ov, x = .ref a ∧ DGet H a y ov ∧ Q (.bl (!ov.isSome)) H
theorem op_din {X : Cx} (hu : X.A.units + 1 < cLine) : OpR X (compareOp .In) rDIn := by
  intro pins s σ H x y v u Q I rx ry h
  obtain ⟨a, ov, rfl, g, q⟩ := h
  obtain rfl : u = Value.ref a := ry
  exact d_in hu I g rx fun s3 I3 => ⟨.bl ov.isSome, H, I3, rfl, q⟩
theorem op_dnotin {X : Cx} (hu : X.A.units + 1 < cLine) : OpR X (compareOp .NotIn) rDNotIn := by
  intro pins s σ H x y v u Q I rx ry h
  obtain ⟨a, ov, rfl, g, q⟩ := h
  obtain rfl : u = Value.ref a := ry
  exact d_notIn hu I g rx fun s3 I3 => ⟨.bl (!ov.isSome), H, I3, rfl, q⟩
/-! ### comparisons -/
open Classical in
noncomputable def deq (x y : D) : Bool := decide (x = y)
def D.flat : D → Bool | .non => true | .int _ => true | .str _ => true | _ => false
theorem den_flat {K : PySem.W.Frag} {H : Hp} {v u : V} {x y : D} (hv : Den K H v x) (hu : Den K H u y) (fx : x.flat = true) (fy : y.flat = true) : flatV v = true ∧ eqV u v = deq x y := by
  unfold deq
  have cI : ∀ i j : Int, decide (i = j) = (j == i) := fun i j => by rw [Bool.eq_iff_iff, decide_eq_true_iff, beq_iff_eq]; exact eq_comm
  have cS : ∀ i j : Str, decide (i = j) = (j == i) := fun i j => by rw [Bool.eq_iff_iff, decide_eq_true_iff, beq_iff_eq]; exact eq_comm
  cases hv <;> simp [D.flat] at fx <;> cases hu <;> simp [D.flat] at fy <;> refine ⟨rfl, ?_⟩ <;> simp [eqV, cI, cS]
open Classical in
theorem den_inV {K : PySem.W.Frag} {H : Hp} {v : V} {x : D} (hv : Den K H v x) (fx : x.flat = true) : ∀ {vs : List V} {ds : List D}, DenL K H vs ds → (ds.all D.flat) = true → vs.all flatV = true ∧ inV v vs = decide (x ∈ ds)
  | _, _, .nil, _ => ⟨rfl, by simp [inV]⟩
  | _, _, .cons (d := d) h t, f => by
    simp only [List.all_cons, Bool.and_eq_true] at f
    obtain ⟨q1, q2⟩ := den_inV hv fx t f.2
    obtain ⟨g1, _⟩ := den_flat h hv f.1 fx
    obtain ⟨_, g2⟩ := den_flat hv h fx f.1
    refine ⟨by simp [g1, q1], ?_⟩
    unfold inV at q2 ⊢
    rw [List.any_cons, g2, q2]
    simp [deq]
def ltW : D → D → (Bool → Prop) → Prop
  | .int i, .int j, k => k (decide (i < j))
  | .str s, .str t, k => k (decide (s.cps.toList < t.cps.toList))
  | _, _, _ => False
def leW : D → D → (Bool → Prop) → Prop
  | .int i, .int j, k => k (decide (i ≤ j))
  | .str s, .str t, k => k (!decide (t.cps.toList < s.cps.toList))
  | _, _, _ => False
def gtW : D → D → (Bool → Prop) → Prop
  | .int i, .int j, k => k (decide (j < i))
  | .str s, .str t, k => k (decide (t.cps.toList < s.cps.toList))
  | _, _, _ => False
def geW : D → D → (Bool → Prop) → Prop
  | .int i, .int j, k => k (decide (j ≤ i))
  | _, _, _ => False
def eqW : D → D → (Bool → Prop) → Prop
  | .int i, .int j, k => k (decide (i = j))
  | .str s, .str t, k => k (decide (s = t))
  | .bl s, .bl t, k => k (decide (s = t))
  | x, y, k => x.fine ∧ y.fine ∧ k (deq x y)
def isW : D → D → (Bool → Prop) → Prop
  | x, .non, k => k x.isN
  | .bl s, .bl t, k => k (decide (s = t))
  | _, _, _ => False
def inW : D → D → (Bool → Prop) → Prop
  | x, .lst ds, k => x.flat = true ∧ ds.all D.flat = true ∧ k (ds.any (deq x))
  | x, .tup ds, k => x.flat = true ∧ ds.all D.flat = true ∧ k (ds.any (deq x))
  | .int i, .dic kvs, k => k (kget kvs (.inl i)).isSome
  | .str i, .dic kvs, k => k (kget kvs (.inr i)).isSome
  | _, _, _ => False
def cmpW (op : CmpOp) (x y : D) (k : Bool → Prop) : Prop := match op with
  | .Lt => ltW x y k
  | .LtE => leW x y k
  | .Gt => gtW x y k
  | .GtE => geW x y k
  | .Eq => eqW x y k
  | .NotEq => eqW x y fun b => k !b
  | .Is => isW x y k
  | .IsNot => isW x y fun b => k !b
  | .In => inW x y k
  | .NotIn => inW x y fun b => k !b
theorem cmp_of {X : Cx} {op : CmpOp} {x y : D} {bo : Bool} {Φ : T → Prop} (h : CmpV X op x y bo) (k : Φ (.v (.bl bo))) : OpX X (compareOp op) x y Φ := fun B F0 ρ σ H v u Q R kk =>
  let ⟨q, ho, hq⟩ := h
  ⟨q, ho, hq H v u Q R.drop.den R.den (kk _ _ H k (R.drop.drop.pushS fun _ => .bl _))⟩
theorem kV_den {K : PySem.W.Frag} {H : Hp} {k : Key} {v : V} (h : Den K H v (kD k)) : v = kV k := by cases k <;> (cases h; rfl)
theorem cmpW_ok {X : Cx} (hu : X.A.units + 64 < cLine) {op : CmpOp} {x y : D} {Φ : T → Prop} (h : cmpW op x y fun b => Φ (.v (.bl b))) : OpX X (compareOp op) x y Φ := by
  have inS : ∀ (neg : Bool) (f : Value → Value → Sem Value) (ds : List D) (x : D), OpR X f (rIn X.K neg) → x.flat = true → ds.all D.flat = true → Φ (.v (.bl (if neg then !ds.any (deq x) else ds.any (deq x)))) →
      ∀ y, (y = .lst ds ∨ y = .tup ds) → OpX X f x y Φ := by
    intro neg f ds x ho fx fs k y hy
    refine opx_plain (z := .bl (if neg then !ds.any (deq x) else ds.any (deq x))) ho (fun H v u Q hv hu' kk => ?_) k
    have key : ∀ {us : List V}, DenL X.K H us ds → (inV v us = ds.any (deq x)) ∧ us.all flatV = true := fun {us} q => by
      obtain ⟨q1, q2⟩ := den_inV hv fx q fs
      refine ⟨?_, q1⟩
      rw [q2, Bool.eq_iff_iff]
      simp [deq]
    have fv := (den_flat hv hv fx fx).1
    rcases hy with rfl | rfl
    · cases hu' with
      | lst h1 q1 =>
        obtain ⟨e1, e2⟩ := key q1
        refine ⟨_, _, rfl, .inl h1, fv, e2, ?_⟩
        rw [e1]
        exact kk _ fun _ => .bl _
    · cases hu' with
      | tup h1 q1 =>
        obtain ⟨e1, e2⟩ := key q1
        refine ⟨_, _, rfl, .inr (SqT.of h1), fv, e2, ?_⟩
        rw [e1]
        exact kk _ fun _ => .bl _
  have inD : ∀ (key : Key) (kvs : List (Key × D)) (x : D), x = kD key → (∀ {Φ : T → Prop}, Φ (.v (.bl (kget kvs key).isSome)) → OpX X (compareOp .In) x (.dic kvs) Φ) ∧ (∀ {Φ : T → Prop}, Φ (.v (.bl (!(kget kvs key).isSome))) → OpX X (compareOp .NotIn) x (.dic kvs) Φ) := by
    rintro key kvs x rfl
    refine ⟨fun {Φ} h => cmp_of ⟨_, op_din (by omega), fun H v u Q hv hu' k => ?_⟩ h, fun {Φ} h => cmp_of ⟨_, op_dnotin (by omega), fun H v u Q hv hu' k => ?_⟩ h⟩
    · cases hu' with
      | dic hq hk q =>
        refine ⟨_, _, rfl, .inl ⟨_, key, hq, kV_den hv, rfl⟩, ?_⟩
        rw [val_get, kget_some (k := key) hk]
        exact k
    · cases hu' with
      | dic hq hk q =>
        refine ⟨_, _, rfl, .inl ⟨_, key, hq, kV_den hv, rfl⟩, ?_⟩
        rw [val_get, kget_some (k := key) hk]
        exact k
  have isn : ∀ (x : D), CmpV X .Is x .non x.isN ∧ CmpV X .IsNot x .non (!x.isN) := fun x => ⟨⟨_, op_isN, fun H v u Q hv hu' k => by
    cases hu'
    refine ⟨rfl, ?_⟩
    rw [den_isN hv]; exact k⟩, ⟨_, op_notN, fun H v u Q hv hu' k => by
    cases hu'
    refine ⟨rfl, ?_⟩
    rw [den_isN hv]; exact k⟩⟩
  have isb : ∀ (s t : Bool), CmpV X .Is (.bl s) (.bl t) (decide (s = t)) ∧ CmpV X .IsNot (.bl s) (.bl t) (!decide (s = t)) := fun s t =>
    ⟨⟨_, op_isBl, fun H v u Q hv hu' k => by cases hv; cases hu'; exact ⟨_, _, rfl, rfl, k⟩⟩, ⟨_, op_notBl, fun H v u Q hv hu' k => by cases hv; cases hu'; exact ⟨_, _, rfl, rfl, k⟩⟩⟩
  have eqb : ∀ (s t : Bool), CmpV X .Eq (.bl s) (.bl t) (decide (s = t)) ∧ CmpV X .NotEq (.bl s) (.bl t) (!decide (s = t)) := fun s t => by
    have e : decide (V.bl s = V.bl t) = decide (s = t) := by by_cases h : s = t <;> simp [h]
    exact ⟨⟨_, op_eq, fun H v u Q hv hu' k => by cases hv; cases hu'; exact ⟨rfl, by rw [e]; exact k⟩⟩, ⟨_, op_ne, fun H v u Q hv hu' k => by cases hv; cases hu'; exact ⟨rfl, by rw [e]; exact k⟩⟩⟩
  unfold cmpW at h
  cases op <;> dsimp only at h
  · unfold eqW at h
    split at h
    · exact cmp_of cv_eqI h
    · exact cmp_of cv_eqS h
    · exact cmp_of (eqb _ _).1 h
    · exact cmp_of (cv_eq hu h.1 h.2.1 (by simp [deq])) h.2.2
  · unfold eqW at h
    split at h
    · exact cmp_of cv_neI h
    · exact cmp_of cv_neS h
    · exact cmp_of (eqb _ _).2 h
    · exact cmp_of (cv_ne hu h.1 h.2.1 (by simp [deq])) h.2.2
  · unfold ltW at h
    split at h
    · exact cmp_of cv_lt h
    · exact cmp_of cv_ltS h
    · exact h.elim
  · unfold leW at h
    split at h
    · exact cmp_of cv_le h
    · exact cmp_of cv_leS h
    · exact h.elim
  · unfold gtW at h
    split at h
    · exact cmp_of cv_gt h
    · exact cmp_of cv_gtS h
    · exact h.elim
  · unfold geW at h
    split at h
    · exact cmp_of cv_ge h
    · exact h.elim
  · unfold isW at h
    split at h
    · exact cmp_of (isn _).1 h
    · exact cmp_of (isb _ _).1 h
    · exact h.elim
  · unfold isW at h
    split at h
    · exact cmp_of (isn _).2 h
    · exact cmp_of (isb _ _).2 h
    · exact h.elim
  · unfold inW at h
    split at h
    · exact inS false _ _ _ op_in_seq h.1 h.2.1 h.2.2 _ (.inl rfl)
    · exact inS false _ _ _ op_in_seq h.1 h.2.1 h.2.2 _ (.inr rfl)
    · exact (inD (.inl _) _ _ rfl).1 h
    · exact (inD (.inr _) _ _ rfl).1 h
    · exact h.elim
  · unfold inW at h
    split at h
    · exact inS true _ _ _ op_notIn_seq h.1 h.2.1 h.2.2 _ (.inl rfl)
    · exact inS true _ _ _ op_notIn_seq h.1 h.2.1 h.2.2 _ (.inr rfl)
    · exact (inD (.inl _) _ _ rfl).2 h
    · exact (inD (.inr _) _ _ rfl).2 h
    · exact h.elim
end Vl
end
section
set_option maxRecDepth 100000
/-! Wp3: expressions, made of others. -/
namespace Vl
open PySem L2
section
variable {X : Cx} {e a b c : Expr} {es rest : List Expr} {ρ ρ1 : Rho} {Φ : T → Rho → Prop} {Ξ : EX} {wa wb wc : WE} {ta tb : WT} {va : WA} {vt : WAT} {pos p p2 : Pos} {r : T}
theorem sl1 {vst : St} {st : Rho} {v : V} {r : T} (hl : vst.length = st.length) : (some v :: vst).length = (some r :: st).length := by simp [hl]
theorem EvX.mono {Φ' : T → Rho → Prop} (h : EvX X e ρ Φ Ξ) (k : ∀ r ρ1, Φ r ρ1 → Φ' r ρ1) : EvX X e ρ Φ' Ξ := fun B F0 st vst σ H Q Wx tk hl R kk kx => h B F0 st vst σ H Q Wx tk hl R (fun r ρ1 v H' hf => kk r ρ1 v H' (k r ρ1 hf)) kx
theorem TvX.mono {Φ Φ' : Bool → Rho → Prop} (h : TvX X e ρ Φ Ξ) (k : ∀ r ρ1, Φ r ρ1 → Φ' r ρ1) : TvX X e ρ Φ' Ξ := fun B F0 st vst σ H Q Wx tk hl R kk kx => h B F0 st vst σ H Q Wx tk hl R (fun r ρ1 H' hf => kk r ρ1 H' (k r ρ1 hf)) kx
theorem TwX.mono {Φ Φ' : Bool → Rho → Prop} (h : TwX X e ρ Φ Ξ) (k : ∀ r ρ1, Φ r ρ1 → Φ' r ρ1) : TwX X e ρ Φ' Ξ := fun B F0 st vst σ H Q Wx tk hl R kk kx => h B F0 st vst σ H Q Wx tk hl R (fun r ρ1 H' hf => kk r ρ1 H' (k r ρ1 hf)) kx
theorem AvX.mono {Φ Φ' : List D → Rho → Prop} (h : AvX X es ρ Φ Ξ) (k : ∀ r ρ1, Φ r ρ1 → Φ' r ρ1) : AvX X es ρ Φ' Ξ := fun B F0 st vst σ H Q Wx tk hl R kk kx => h B F0 st vst σ H Q Wx tk hl R (fun r ρ1 v H' hf => kk r ρ1 v H' (k r ρ1 hf)) kx
/-! ### operators -/
def wBin (op : Operator) (a b : WE) : WE := fun ρ Φ Ξ => a ρ (fun r ρ1 => b ρ1 (fun s ρ2 => binW op r.d s.d fun t => Φ t ρ2) Ξ) Ξ
def wCmp (op : CmpOp) (a b : WE) : WE := fun ρ Φ Ξ => a ρ (fun r ρ1 => b ρ1 (fun s ρ2 => cmpW op r.d s.d fun t => Φ (.v (.bl t)) ρ2) Ξ) Ξ
theorem evx_op2 {f : Value → Value → Sem Value} {ex : Expr} (hp : ∀ {q : R2}, OpR X f q → PE X ex (tOp q (tE X a) (tE X b))) (h : EvX X a ρ (fun r ρ1 => EvX X b ρ1 (fun s ρ2 => OpX X f r.d s.d fun t => Φ t ρ2) Ξ) Ξ) : EvX X ex ρ Φ Ξ :=
  fun B F0 st vst σ H Q Wx tk hl R k kx => ⟨_, hp opr_u, h B F0 st vst σ H _ Wx tk hl R (fun r ρ1 v H1 hb R1 => hb B F0 (some r :: st) (some v :: vst) σ H1 _ Wx tk (sl1 hl) R1
    (fun s ρ2 u H2 hop R2 => hop B F0 (st ++ ρ2) (vst ++ σ) H2 v u Q (Rl.frz2 R2) fun t w H3 ht R3 => k t ρ2 w H3 ht R3) fun x ρ1 cls d F H' hx RF xd => kx x ρ1 cls d F H' hx RF.drop' xd) kx⟩
theorem rf_bin {op : Operator} (ha : RfE X a wa) (hb : RfE X b wb) : RfE X (.BinOp a op b pos) (wBin op wa wb) := fun ρ Φ Ξ h =>
  evx_op2 (fun ho => pe_op ho (pe_u X a) (pe_u X b)) (ha _ _ _ h |>.mono fun r ρ1 h1 => (hb _ _ _ h1).mono fun s ρ2 h2 => binW_ok h2)
theorem rf_cmp {op : CmpOp} (hu : X.A.units + 64 < cLine) (ha : RfE X a wa) (hb : RfE X b wb) (hm : behindInMarks op b = false := by first | exact nomark _ | rfl) : RfE X (.Compare a [op] [b] pos) (wCmp op wa wb) := fun ρ Φ Ξ h =>
  evx_op2 (fun ho => pe_cmpR ho (pe_u X a) (pe_u X b) hm) ((ha _ _ _ h).mono fun r ρ1 h1 => (hb _ _ _ h1).mono fun s ρ2 h2 => cmpW_ok hu h2)
/-- a < b < c -/
def wChain (op op' : CmpOp) (a b c : WE) : WE := fun ρ Φ Ξ => a ρ (fun r ρ1 => b ρ1 (fun s ρ2 => cmpW op r.d s.d fun t => (t = true → c ρ2 (fun u ρ3 => cmpW op' s.d u.d fun t' => Φ (.v (.bl t')) ρ3) Ξ) ∧ (t = false → Φ (.v (.bl false)) ρ2)) Ξ) Ξ
theorem cmp_bl {op : CmpOp} (hu : X.A.units + 64 < cLine) {x y : D} {k : Bool → Prop} (h : cmpW op x y k) : OpX X (compareOp op) x y fun t => ∃ b, t = .v (.bl b) ∧ k b := cmpW_ok hu (by
  have m1 : ∀ x y (k k' : Bool → Prop), (∀ b, k b → k' b) → ltW x y k → ltW x y k' := fun x y k k' hk h => by unfold ltW at h ⊢; split at h <;> first | exact hk _ h | exact h.elim
  have m2 : ∀ x y (k k' : Bool → Prop), (∀ b, k b → k' b) → leW x y k → leW x y k' := fun x y k k' hk h => by unfold leW at h ⊢; split at h <;> first | exact hk _ h | exact h.elim
  have m3 : ∀ x y (k k' : Bool → Prop), (∀ b, k b → k' b) → gtW x y k → gtW x y k' := fun x y k k' hk h => by unfold gtW at h ⊢; split at h <;> first | exact hk _ h | exact h.elim
  have m4 : ∀ x y (k k' : Bool → Prop), (∀ b, k b → k' b) → geW x y k → geW x y k' := fun x y k k' hk h => by unfold geW at h ⊢; split at h <;> first | exact hk _ h | exact h.elim
  have m5 : ∀ x y (k k' : Bool → Prop), (∀ b, k b → k' b) → eqW x y k → eqW x y k' := fun x y k k' hk h => by unfold eqW at h ⊢; split at h <;> first | exact hk _ h | exact ⟨h.1, h.2.1, hk _ h.2.2⟩
  have m6 : ∀ x y (k k' : Bool → Prop), (∀ b, k b → k' b) → isW x y k → isW x y k' := fun x y k k' hk h => by unfold isW at h ⊢; split at h <;> first | exact hk _ h | exact h.elim
  have m7 : ∀ x y (k k' : Bool → Prop), (∀ b, k b → k' b) → inW x y k → inW x y k' := fun x y k k' hk h => by unfold inW at h ⊢; split at h <;> first | exact hk _ h | exact ⟨h.1, h.2.1, hk _ h.2.2⟩ | exact h.elim
  have hk : ∀ b, k b → ∃ b', (T.v (.bl b)) = .v (.bl b') ∧ k b' := fun b hb => ⟨b, rfl, hb⟩
  unfold cmpW at h ⊢
  cases op <;> dsimp only at h ⊢
  · exact m5 _ _ _ _ hk h
  · exact m5 _ _ _ _ (fun b hb => ⟨_, rfl, hb⟩) h
  · exact m1 _ _ _ _ hk h
  · exact m2 _ _ _ _ hk h
  · exact m3 _ _ _ _ hk h
  · exact m4 _ _ _ _ hk h
  · exact m6 _ _ _ _ hk h
  · exact m6 _ _ _ _ (fun b hb => ⟨_, rfl, hb⟩) h
  · exact m7 _ _ _ _ hk h
  · exact m7 _ _ _ _ (fun b hb => ⟨_, rfl, hb⟩) h)
theorem Rl.frz1 {K : PySem.W.Frag} {B F0 H : Hp} {ρ : Rho} {σ : St} {v : V} {r : T} (h : Rl K B F0 (some r :: ρ) (some v :: σ) H) : Rl K B F0 (some (.v r.d) :: ρ) (some v :: σ) H := h.freeze
theorem rf_chain {op op' : CmpOp} (hu : X.A.units + 64 < cLine) (ha : RfE X a wa) (hb : RfE X b wb) (hc : RfE X c wc) (hm : lastMarks [op, op'] [b, c] = false := by with_unfolding_all rfl) : RfE X (.Compare a [op, op'] [b, c] pos) (wChain op op' wa wb wc) := fun ρ Φ Ξ h =>
  fun B F0 st vst σ H Q Wx tk hl R k kx => ⟨_, pe_chain opr_u opr_u (pe_u X a) (pe_u X b) (pe_u X c) hm, ha _ _ _ h B F0 st vst σ H _ Wx tk hl R (fun r ρ1 v H1 h1 R1 => hb _ _ _ h1 B F0 (some r :: st) (some v :: vst) σ H1 _ Wx tk (sl1 hl) R1
    (fun s ρ2 u H2 h2 R2 => by
      have R2' : Rl X.K B F0 (some (.v s.d) :: some (.v r.d) :: some (.v s.d) :: (st ++ ρ2)) (some u :: some v :: some u :: (vst ++ σ)) H2 := by
        obtain ⟨F, A, e0, e1, e2, dm, o, nd, fr⟩ := Rl.frz2 R2
        cases o with
        | cons o1 o2 =>
          cases o1 with
          | v d1 =>
            cases o2 with
            | cons o2 o3 =>
              cases o2 with
              | v d2 => exact ⟨F, _, e0, e1, e2, dm, OwnS.cons (A := []) (.v d1) (OwnS.cons (A := []) (.v d2) (OwnS.cons (A := []) (.v d1) o3)), by simpa using nd, fun a ha => fr a (by simpa using ha)⟩
      refine cmp_bl hu h2 B F0 (some (.v s.d) :: (st ++ ρ2)) (some u :: (vst ++ σ)) H2 v u _ R2' fun t w H3 ht R3 => ?_
      obtain ⟨bo, rfl, ht⟩ := ht
      obtain rfl := R3.headB
      refine ⟨bo, rfl, ?_⟩
      cases bo with
      | true =>
        refine iteT ?_
        exact hc _ _ _ (ht.1 rfl) B F0 (some (.v s.d) :: st) (some u :: vst) σ H3 _ Wx tk (sl1 hl) R3.drop (fun q ρ3 z H4 h4 R4 => cmpW_ok hu h4 B F0 (st ++ ρ3) (vst ++ σ) H4 u z Q (Rl.frz2 R4) fun t w H5 ht R5 => k t ρ3 w H5 ht R5)
          (fun x ρ1 cls d F H' hx RF xd => kx x ρ1 cls d F H' hx RF.drop' xd)
      | false => exact iteF (k _ ρ2 _ H3 (ht.2 rfl) (R3.drop.drop.pushS fun _ => .bl _)))
    (fun x ρ1 cls d F H' hx RF xd => kx x ρ1 cls d F H' hx RF.drop' xd)) kx⟩
/-! ### and, or, not as values -/
def wAnd (a b : WE) : WE := fun ρ Φ Ξ => a ρ (fun r ρ1 => ∃ c, r = .v (.bl c) ∧ (c = true → b ρ1 Φ Ξ) ∧ (c = false → Φ (.v (.bl false)) ρ1)) Ξ
def wNot (a : WE) : WE := fun ρ Φ Ξ => a ρ (fun r ρ1 => ∃ c, r = .v (.bl c) ∧ Φ (.v (.bl (!c))) ρ1) Ξ
theorem rf_one {op} (ha : RfE X a wa) : RfE X (.BoolOp op [a] pos) wa := fun ρ Φ Ξ h B F0 st vst σ H Q Wx tk hl R k kx => ⟨_, pe_one (pe_u X a), ha _ _ _ h B F0 st vst σ H Q Wx tk hl R k kx⟩
theorem rf_and (ha : RfE X a wa) (hb : RfE X (.BoolOp .And (b :: rest) pos) wb) : RfE X (.BoolOp .And (a :: b :: rest) pos) (wAnd wa wb) := fun ρ Φ Ξ h B F0 st vst σ H Q Wx tk hl R k kx =>
  ⟨_, pe_and (pe_u X a) (pe_u X (.BoolOp .And (b :: rest) pos)), ha _ _ _ h B F0 st vst σ H _ Wx tk hl R (fun r ρ1 v H1 h1 R1 => by
    obtain ⟨c, rfl, h2, h3⟩ := h1
    refine ⟨c, R1.headB, ?_⟩
    cases c with
    | true => exact hb _ _ _ (h2 rfl) B F0 st vst σ H1 Q Wx tk hl R1.drop k kx
    | false => exact k _ ρ1 _ H1 (h3 rfl) (R1.drop.pushS fun _ => .bl _)) kx⟩
theorem rf_not (ha : RfE X a wa) : RfE X (.UnaryOp .Not a pos) (wNot wa) := fun ρ Φ Ξ h B F0 st vst σ H Q Wx tk hl R k kx =>
  ⟨_, pe_not (pe_u X a), ha _ _ _ h B F0 st vst σ H _ Wx tk hl R (fun r ρ1 v H1 h1 R1 => by
    obtain ⟨c, rfl, h2⟩ := h1
    exact ⟨c, R1.headB, k _ ρ1 _ H1 h2 (R1.drop.pushS fun _ => .bl _)⟩) kx⟩
def wNeg (a : WE) : WE := fun ρ Φ Ξ => a ρ (fun r ρ1 => ∃ i, r = .v (.int i) ∧ Φ (.v (.int (-i))) ρ1) Ξ
theorem rf_neg (ha : RfE X a wa) : RfE X (.UnaryOp .USub a pos) (wNeg wa) := fun ρ Φ Ξ h B F0 st vst σ H Q Wx tk hl R k kx =>
  ⟨_, pe_un un_neg (pe_u X a), ha _ _ _ h B F0 st vst σ H _ Wx tk hl R (fun r ρ1 v H1 h1 R1 => by
    obtain ⟨i, rfl, h2⟩ := h1
    exact ⟨i, R1.headI, k _ ρ1 _ H1 h2 (R1.drop.pushS fun _ => .int _)⟩) kx⟩
/-! ### tests -/
def tVal (a : WE) : WT := fun ρ Φ Ξ => a ρ (fun r ρ1 => ∃ c, r = .v (.bl c) ∧ Φ c ρ1) Ξ
def tOr' (a b : WT) : WT := fun ρ Φ Ξ => a ρ (fun c ρ1 => (c = false → b ρ1 Φ Ξ) ∧ (c = true → Φ true ρ1)) Ξ
def tNot' (a : WT) : WT := fun ρ Φ Ξ => a ρ (fun c ρ1 => Φ (!c) ρ1) Ξ
/-- the owned list of a slot -/
def tTruO (i : Nat) : WT := fun ρ Φ _ => match slot ρ i with
  | some (.lst ts) => Φ (!ts.isEmpty) ρ
  | some (.v (.lst ds)) => Φ (!ds.isEmpty) ρ
  | some (.v (.bl b)) => Φ b ρ
  | _ => False
theorem rt_val (ha : RfE X a wa) (he : ∀ whole, isTrue a X.env whole = (do let v ← whole; standAt a.pos; holding [v] (truthy v)) := by intro _; rfl) : RfT X a (tVal wa) := fun ρ Φ Ξ h B F0 st vst σ H Q Wx tk hl R k kx =>
  ⟨_, pt_val (pe_u X a) he, ha _ _ _ h B F0 st vst σ H _ Wx tk hl R (fun r ρ1 v H1 h1 R1 => by
    obtain ⟨c, rfl, h2⟩ := h1
    exact ⟨c, R1.headB, k c ρ1 H1 h2 R1.drop⟩) kx⟩
theorem rt_not (ha : RfT X a ta) : RfT X (.UnaryOp .Not a pos) (tNot' ta) := fun ρ Φ Ξ h B F0 st vst σ H Q Wx tk hl R k kx =>
  ⟨_, pt_not (pt_u X a), ha _ _ _ h B F0 st vst σ H _ Wx tk hl R (fun c ρ1 H1 h1 R1 => k _ ρ1 H1 h1 R1) kx⟩
theorem rt_w (h : RfW X a ta) : RfT X a ta := fun ρ Φ Ξ h' B F0 st vst σ H Q Wx tk hl R k kx => let ⟨t, p, q⟩ := h _ _ _ h' B F0 st vst σ H Q Wx tk hl R k kx; ⟨t, p.pt, q⟩
theorem rw_or1 (ha : RfT X a ta) : RfW X (.BoolOp .Or [a] pos) ta := fun ρ Φ Ξ h B F0 st vst σ H Q Wx tk hl R k kx => ⟨_, pw_or1 (pt_u X a), ha _ _ _ h B F0 st vst σ H Q Wx tk hl R k kx⟩
theorem rw_or (ha : RfT X a ta) (hb : RfW X (.BoolOp .Or (b :: rest) pos) tb) : RfW X (.BoolOp .Or (a :: b :: rest) pos) (tOr' ta tb) := fun ρ Φ Ξ h B F0 st vst σ H Q Wx tk hl R k kx =>
  ⟨_, pw_or (pt_u X a) (pw_u X (.BoolOp .Or (b :: rest) pos)), ha _ _ _ h B F0 st vst σ H _ Wx tk hl R (fun c ρ1 H1 h1 R1 => by
    cases c with
    | false => exact iteF (hb _ _ _ (h1.1 rfl) B F0 st vst σ H1 Q Wx tk hl R1 k kx)
    | true => exact iteT (k _ ρ1 H1 (h1.2 rfl) R1)) kx⟩
theorem TvX.of {bo : Bool} {Φ : Bool → Rho → Prop} (h : Tv X e ρ bo ρ1) (k : Φ bo ρ1) : TvX X e ρ Φ Ξ := fun B F0 st vst σ H Q Wx tk hl R kk kx => h B F0 st vst σ H Q hl R fun H' R' => kk _ ρ1 H' k R'
theorem rt_truO {x : Str} (i : Nat) (hN : X.N[i]? = some x := by rfl) (hv : Vis X.env.scope x := by first | exact Or.inl rfl | exact Or.inr (Or.inl rfl) | exact Or.inr (Or.inr rfl)) (hd : (x == ("__debug__" : Str)) = false := by decide) (hcd : (x == ("__classdict__" : Str)) = false := by decide)
    (he : ∀ whole, isTrue (.Name x p) X.env whole = (do let v ← whole; standAt (Expr.Name x p).pos; holding [v] (truthy v)) := by intro _; rfl) : RfT X (.Name x p) (tTruO i) := fun ρ Φ Ξ h => by
  unfold tTruO at h
  split at h
  · exact .of (tv_truO i (slot_get (by assumption)) (.inl rfl) hN hv hd hcd he) h
  · exact .of (tv_tru (ev_var i (slot_get (by assumption)) hN hv hd hcd) he) h
  · exact .of (tv_val (ev_var i (slot_get (by assumption)) hN hv hd hcd) he) h
  · exact h.elim
def wIf' (c : WT) (a b : WE) : WE := fun ρ Φ Ξ => c ρ (fun t ρ1 => (t = true → a ρ1 Φ Ξ) ∧ (t = false → b ρ1 Φ Ξ)) Ξ
theorem rf_if {tc : WT} (hc : RfT X c tc) (ha : RfE X a wa) (hb : RfE X b wb) : RfE X (.IfExp c a b pos) (wIf' tc wa wb) := fun ρ Φ Ξ h B F0 st vst σ H Q Wx tk hl R k kx =>
  ⟨_, pe_ifExp (pt_u X c) (pe_u X a) (pe_u X b), hc _ _ _ h B F0 st vst σ H _ Wx tk hl R (fun t ρ1 H1 h1 R1 => by
    cases t with
    | true => exact iteT (ha _ _ _ (h1.1 rfl) B F0 st vst σ H1 Q Wx tk hl R1 k kx)
    | false => exact iteF (hb _ _ _ (h1.2 rfl) B F0 st vst σ H1 Q Wx tk hl R1 k kx)) kx⟩
/-! ### arguments, displays -/
def aNil : WA := fun ρ Φ _ => Φ [] ρ
def aCons (a : WE) (as : WA) : WA := fun ρ Φ Ξ => a ρ (fun r ρ1 => as ρ1 (fun ds ρ2 => Φ (r.d :: ds) ρ2) Ξ) Ξ
def atNil : WAT := fun ρ Φ _ => Φ [] ρ
def atCons (a : WE) (as : WAT) : WAT := fun ρ Φ Ξ => a ρ (fun r ρ1 => as ρ1 (fun ds ρ2 => Φ (r :: ds) ρ2) Ξ) Ξ
theorem ra_nil : RfA X [] aNil := fun ρ Φ Ξ h B F0 st vst σ H Q Wx tk hl R k kx => ⟨_, pa_nil, k [] ρ [] H h rfl R⟩
theorem ra_cons (ha : RfE X a wa) (hr : RfA X es va) (hs : starEach (a :: es) X.env = (false, eval a X.env) :: starEach es X.env := by rfl) : RfA X (a :: es) (aCons wa va) := fun ρ Φ Ξ h B F0 st vst σ H Q Wx tk hl R k kx =>
  ⟨_, pa_cons (pe_u X a) (pa_u X es) hs, ha _ _ _ h B F0 st vst σ H _ Wx tk hl R (fun r ρ1 v H1 h1 R1 => hr _ _ _ h1 B F0 (some (.v r.d) :: st) (some v :: vst) σ H1 _ Wx tk (sl1 hl) (Rl.frz1 R1) (fun ds ρ2 vs H2 h2 hl2 R2 => by
    refine k _ ρ2 (v :: vs) H2 h2 (by simp [hl2]) ?_
    exact Rl.swap (ρ1 := ds.map fun d => some (T.v d)) (σ1 := vs.map some) (ρ2 := [some (.v r.d)]) (σ2 := [some v]) (by simp [hl2]) rfl R2)
    (fun x ρ1 cls d F H' hx RF xd => kx x ρ1 cls d F H' hx RF.drop' xd)) kx⟩
theorem rat_nil : RfAT X [] atNil := fun ρ Φ Ξ h B F0 st vst σ H Q Wx tk hl R k kx => ⟨_, pa_nil, k [] ρ [] H h rfl R⟩
theorem rat_cons (ha : RfE X a wa) (hr : RfAT X es vt) (hs : starEach (a :: es) X.env = (false, eval a X.env) :: starEach es X.env := by rfl) : RfAT X (a :: es) (atCons wa vt) := fun ρ Φ Ξ h B F0 st vst σ H Q Wx tk hl R k kx =>
  ⟨_, pa_cons (pe_u X a) (pa_u X es) hs, ha _ _ _ h B F0 st vst σ H _ Wx tk hl R (fun r ρ1 v H1 h1 R1 => hr _ _ _ h1 B F0 (some r :: st) (some v :: vst) σ H1 _ Wx tk (sl1 hl) R1 (fun ts ρ2 vs H2 h2 hl2 R2 => by
    refine k _ ρ2 (v :: vs) H2 h2 (by simp [hl2]) ?_
    exact Rl.swap (ρ1 := ts.map some) (σ1 := vs.map some) (ρ2 := [some r]) (σ2 := [some v]) (by simp [hl2]) rfl R2)
    (fun x ρ1 cls d F H' hx RF xd => kx x ρ1 cls d F H' hx RF.drop' xd)) kx⟩
def wTup (as : WA) : WE := fun ρ Φ Ξ => as ρ (fun ds ρ1 => ds.length ≤ 100000 ∧ Φ (.v (.tup ds)) ρ1) Ξ
def wLst (as : WA) : WE := fun ρ Φ Ξ => as ρ (fun ds ρ1 => ds.length ≤ 100000 ∧ Φ (.lst (ds.map T.v)) ρ1) Ξ
/-- a list of things that stay owned -/
def wLstT (as : WAT) : WE := fun ρ Φ Ξ => as ρ (fun ts ρ1 => ts.length ≤ 100000 ∧ Φ (.lst ts) ρ1) Ξ
theorem rf_tup {x1} (ha : RfA X es va) : RfE X (.Tuple es x1 pos) (wTup va) := fun ρ Φ Ξ h B F0 st vst σ H Q Wx tk hl R k kx =>
  ⟨_, pe_tup (pa_u X es), ha _ _ _ h B F0 st vst σ H _ Wx tk hl R (fun ds ρ1 vs H1 h1 hl1 R1 => ⟨by rw [hl1, sizeLine_eq]; omega, fun p hp => k _ ρ1 _ _ h1.2 (R1.newTup hl1 hp)⟩) kx⟩
theorem rf_lst (ha : RfA X es va) : RfE X (.List es pos) (wLst va) := fun ρ Φ Ξ h B F0 st vst σ H Q Wx tk hl R k kx =>
  ⟨_, pe_lst (pa_u X es), ha _ _ _ h B F0 st vst σ H _ Wx tk hl R (fun ds ρ1 vs H1 h1 hl1 R1 => ⟨by rw [hl1, sizeLine_eq]; omega, fun p hp => k _ ρ1 _ _ h1.2 (Rl.newLst (ts := ds.map T.v) (by rw [List.map_map]; exact R1) (by simp [hl1]) hp)⟩) kx⟩
theorem rf_lstT (ha : RfAT X es vt) : RfE X (.List es pos) (wLstT vt) := fun ρ Φ Ξ h B F0 st vst σ H Q Wx tk hl R k kx =>
  ⟨_, pe_lst (pa_u X es), ha _ _ _ h B F0 st vst σ H _ Wx tk hl R (fun ts ρ1 vs H1 h1 hl1 R1 => ⟨by rw [hl1, sizeLine_eq]; omega, fun p hp => k _ ρ1 _ _ h1.2 (R1.newLst hl1 hp)⟩) kx⟩
end
end Vl
end
section
set_option maxRecDepth 100000
/-! Wp4: items, slices, fields, calls. -/
namespace Vl
open PySem L2
/-! ### items -/
theorem ixr_u {X : Cx} : IxR X (fun v u H Q => ∃ q, IxR X q ∧ q v u H Q) := fun ve se pins s σ H x y v u Q I rx ry h hs => let ⟨_, p, q⟩ := h; p ve se pins s σ H x y v u Q I rx ry q hs
def rIxD : R2 := fun x y H Q => ∃ a v, x = .ref a ∧ DGet H a y (some v) ∧ Q v H
theorem ix_dict {X : Cx} (hu : X.A.units + 1 < cLine) : IxR X rIxD := by
  intro value slice pins s σ H x y v u Q I rx ry h hs
  obtain ⟨a, w, rfl, g, q⟩ := h
  obtain rfl : v = Value.ref a := rx
  have hT := dict_typeIs I g
  unfold PyProof.Rows.subscriptTail
  refine wpAny_bind ?_
  rw [getitemInPython_of_ne hT.not_modules]
  refine wpAny_bind (wpAny_specialOf hT PySem.F.slot_dict_getitem.lookup ?_)
  have fin : wpAny (model X.prog X.w) X.A (subscripted slice false (.ref a) u) (fun r s₃ => wpAny (model X.prog X.w) X.A (letTemporaryGo value (.ref a) r >>= fun _ => pure r) (EP X pins σ Q) X.xe s₃) X.xe s := by
    rw [hs]
    exact wpAny_operating (wpAny_mono (d_getItem (Q := EP X pins σ Q) (E := X.xe) hu I g ry fun w' s3 I3 rw' => ⟨w, H, I3, rw', q⟩) (fun r s₃ h₃ => wpAny_bind (wpAny_letTemporaryGo (wpAny_pure h₃))) fun _ _ x => x)
  first
    | exact wpAny_pure (wpAny_bind fin)
    | exact wpAny_bind (wpAny_pure (wpAny_bind fin))
    | exact wpAny_bind fin
def ixW : D → D → (D → Prop) → Prop
  | .lst ds, .int n, k => ∃ d, atI ds n = some d ∧ k d
  | .tup ds, .int n, k => ∃ d, atI ds n = some d ∧ k d
  | .str w, .int n, k => w.length ≤ 100000 ∧ ∃ c, atI w.cps.toList n = some c ∧ k (.str ⟨#[c]⟩)
  | .dic kvs, .int i, k => ∃ d, kget kvs (.inl i) = some d ∧ k d
  | .dic kvs, .str i, k => ∃ d, kget kvs (.inr i) = some d ∧ k d
  | _, _, _ => False
def IxX (X : Cx) (x y : D) (Φ : D → Prop) : Prop :=
  ∀ (B F0 : Hp) (ρ : Rho) (σ : St) (H : Hp) (v u : V) (Q : VK), Rl X.K B F0 (some (.v y) :: some (.v x) :: ρ) (some u :: some v :: σ) H →
    (∀ t w H', Φ t → Rl X.K B F0 (some (.v t) :: ρ) (some w :: σ) H' → Q w H') → ∃ q, IxR X q ∧ q v u H Q
theorem ixW_ok {X : Cx} (hu : X.A.units + 64 < cLine) {x y : D} {Φ : D → Prop} (h : ixW x y Φ) : IxX X x y Φ := by
  intro B F0 ρ σ H v u Q R kk
  obtain ⟨F, eF, hd, mk1, _, _⟩ := Rl.elimN (ds := [y, x]) (vs := [u, v]) (ρ := ρ) (σ := σ) R rfl
  obtain ⟨u', v', e, d1, d2⟩ := denl2 hd
  clear hd
  cases e
  have key : ∀ (key : Key) (kvs : List (Key × D)) (d : D), Den X.K F v (.dic kvs) → u = kV key → kget kvs key = some d → Φ d → ∃ q, IxR X q ∧ q v u H Q := fun key kvs d hv eu hg hf => by
    cases hv with
    | dic hq hk q =>
      obtain ⟨x, h1, h2⟩ := (den_get hk q).2 d hg
      exact ⟨_, ix_dict (by omega), _, x, rfl, .inl ⟨_, key, eF.rd hq, eu, h1.symm⟩, kk d x H hf (mk1 x d h2)⟩
  unfold ixW at h
  split at h
  · obtain ⟨d, hd, hf⟩ := h
    cases d1
    cases d2 with
    | lst hq q =>
      obtain ⟨w, hw, dw⟩ := q.at hd
      exact ⟨_, ix_list, _, _, _, w, rfl, rfl, eF.sqL hq, hw, kk d w H hf (mk1 w d dw)⟩
  · obtain ⟨d, hd, hf⟩ := h
    cases d1
    cases d2 with
    | tup hq q =>
      obtain ⟨w, hw, dw⟩ := q.at hd
      exact ⟨_, ix_tup, _, _, _, w, rfl, rfl, SqT.of (eF.t hq), hw, kk d w H hf (mk1 w d dw)⟩
  · obtain ⟨hz, c, hd, hf⟩ := h
    cases d1
    cases d2
    exact ⟨_, ix_str, _, _, c, rfl, rfl, by rw [sizeLine_eq]; omega, hd, kk _ _ H hf (mk1 _ _ (.str _))⟩
  · obtain ⟨d, hd, hf⟩ := h
    exact key (.inl _) _ d d2 (by cases d1; rfl) hd hf
  · obtain ⟨d, hd, hf⟩ := h
    exact key (.inr _) _ d d2 (by cases d1; rfl) hd hf
  · exact h.elim
section
variable {X : Cx} {e a b c : Expr} {es rest : List Expr} {ρ ρ1 : Rho} {Φ : T → Rho → Prop} {Ξ : EX} {wa wb wc : WE} {ta tb : WT} {va : WA} {vt : WAT} {pos p p2 p3 : Pos} {r : T}
def wIx (a b : WE) : WE := fun ρ Φ Ξ => a ρ (fun r ρ1 => b ρ1 (fun s ρ2 => ixW r.d s.d fun d => Φ (.v d) ρ2) Ξ) Ξ
theorem rf_ix (hu : X.A.units + 64 < cLine) (ha : RfE X a wa) (hb : RfE X b wb) (hs : PlainIx b := by first | exact fun _ _ => rfl | (intro _ _; rfl)) : RfE X (.Subscript a b pos) (wIx wa wb) := fun ρ Φ Ξ h B F0 st vst σ H Q Wx tk hl R k kx =>
  ⟨_, pe_ix ixr_u (pe_u X a) (pe_u X b) hs, ha _ _ _ h B F0 st vst σ H _ Wx tk hl R (fun r ρ1 v H1 h1 R1 => hb _ _ _ h1 B F0 (some r :: st) (some v :: vst) σ H1 _ Wx tk (sl1 hl) R1
    (fun s ρ2 u H2 h2 R2 => ixW_ok hu h2 B F0 (st ++ ρ2) (vst ++ σ) H2 v u Q (Rl.frz2 R2) fun t w H3 ht R3 => k _ ρ2 w H3 ht R3) fun x ρ1 cls d F H' hx RF xd => kx x ρ1 cls d F H' hx RF.drop' xd) kx⟩
/-- an item of the owned list of a slot, read where it stands -/
def wIxO (i : Nat) (b : WE) : WE := fun ρ Φ Ξ => (∃ t, slot ρ i = some t) ∧ b ρ (fun s ρ1 => ∃ n, s = .v (.int n) ∧ match slot ρ1 i with
  | some (.lst ts) => ∃ d, atI ts n = some (.v d) ∧ Φ (.v d) ρ1
  | some (.at_ _ (.lst ts)) => ∃ d, atI ts n = some (.v d) ∧ Φ (.v d) ρ1
  | some (.v (.lst ds)) => ∃ d, atI ds n = some d ∧ Φ (.v d) ρ1
  | some (.v (.tup ds)) => ∃ d, atI ds n = some d ∧ Φ (.v d) ρ1
  | _ => False) Ξ
theorem own_at {K : PySem.W.Frag} {F H : Hp} : ∀ {xs : List V} {ts : List T} {A : List Addr}, OwnL K F H xs ts A → xs.length = ts.length ∧ ∀ {j : Nat} {d : D}, ts[j]? = some (.v d) → ∃ w, xs[j]? = some w ∧ Den K F w d
  | _, _, _, .nil => ⟨rfl, fun {j d} e => by simp at e⟩
  | _, _, _, .cons h1 h2 => by
    obtain ⟨l, g⟩ := own_at h2
    refine ⟨by simp [l], fun {j d} e => ?_⟩
    cases j with
    | zero =>
      simp at e; subst e
      cases h1 with
      | v hd => exact ⟨_, rfl, hd⟩
    | succ j => simpa using g (j := j) (by simpa using e)
theorem rf_ixO {x : Str} (i : Nat) (hb : RfE X b wb) (hN : X.N[i]? = some x := by rfl) (hv : Vis X.env.scope x := by first | exact Or.inl rfl | exact Or.inr (Or.inl rfl) | exact Or.inr (Or.inr rfl)) (hd : (x == ("__debug__" : Str)) = false := by decide) (hcd : (x == ("__classdict__" : Str)) = false := by decide)
    (hs : PlainIx b := by first | exact fun _ _ => rfl | (intro _ _; rfl)) : RfE X (.Subscript (.Name x p) b pos) (wIxO i wb) := fun ρ Φ Ξ h B F0 st vst σ H Q Wx tk hl R k kx => by
  obtain ⟨⟨t0, ht0⟩, h⟩ := h
  replace ht0 := slot_get ht0
  obtain ⟨v, _, _, e1, _⟩ := R.slot hl ht0
  refine ⟨_, pe_ix ixr_u (pe_var hN hv hd hcd) (pe_u X b) hs, v, e1, hb _ _ _ h B F0 st vst σ H _ Wx tk hl R (fun s ρ1 u H1 h1 R1 => ?_) kx⟩
  obtain ⟨n, rfl, h2⟩ := h1
  have eu := R1.headI
  subst eu
  have own : ∀ {ts : List T} {t : T}, ρ1[i]? = some (some t) → (t = .lst ts ∨ ∃ a, t = .at_ a (.lst ts)) → ∀ d, atI ts n = some (.v d) → Φ (.v d) ρ1 → ∃ q, IxR X q ∧ q v (.int n) H1 Q := fun {ts t} hi ht d he hf => by
    obtain ⟨v', F, A, e2, o, eF, mk⟩ := R1.drop.slot hl hi
    rw [e1] at e2; cases e2
    have fin : ∀ {a : Addr} {A : List Addr}, Own X.K F H1 (.ref a) (.lst ts) A → ∃ xs w, H1 a = some (.lst xs) ∧ atI xs n = some w ∧ Den X.K F w d := fun {a A} o => by
      cases o with
      | @lst _ xs _ A' h q =>
        obtain ⟨l, g⟩ := own_at q
        unfold atI at he
        cases hx : ixN ts.length n with
        | none => rw [hx] at he; simp at he
        | some j =>
          rw [hx] at he
          obtain ⟨w, hw, dw⟩ := g he
          exact ⟨xs, w, h, by unfold atI; rw [l, hx]; exact hw, dw⟩
    have done : ∀ {a : Addr} {A : List Addr}, Own X.K F H1 (.ref a) (.lst ts) A → ∃ q, IxR X q ∧ q (.ref a) (.int n) H1 Q := fun o => by
      obtain ⟨xs, w, h1, h2, h3⟩ := fin o
      exact ⟨_, ix_list, _, xs, n, w, rfl, rfl, SqL.of h1, h2, k _ ρ1 w H1 hf (mk w d h3)⟩
    rcases ht with rfl | ⟨a, rfl⟩
    · cases o with
      | lst h q => exact done (.lst h q)
    · cases o with
      | at_ o => exact done o
  split at h2
  · obtain ⟨d, he, hf⟩ := h2; exact own (slot_get (by assumption)) (.inl rfl) d he hf
  · obtain ⟨d, he, hf⟩ := h2; exact own (slot_get (by assumption)) (.inr ⟨_, rfl⟩) d he hf
  · obtain ⟨d, he, hf⟩ := h2
    obtain ⟨v', F, A, e2, o, eF, mk⟩ := R1.drop.slot hl (slot_get (by assumption))
    rw [e1] at e2; cases e2
    cases o with
    | v hd =>
      cases hd with
      | lst hq q =>
        obtain ⟨w, hw, dw⟩ := q.at he
        exact ⟨_, ix_list, _, _, n, w, rfl, rfl, eF.sqL hq, hw, k _ ρ1 w H1 hf (mk w d dw)⟩
  · obtain ⟨d, he, hf⟩ := h2
    obtain ⟨v', F, A, e2, o, eF, mk⟩ := R1.drop.slot hl (slot_get (by assumption))
    rw [e1] at e2; cases e2
    cases o with
    | v hd =>
      cases hd with
      | tup hq q =>
        obtain ⟨w, hw, dw⟩ := q.at he
        exact ⟨_, ix_tup, _, _, n, w, rfl, rfl, SqT.of (eF.t hq), hw, k _ ρ1 w H1 hf (mk w d dw)⟩
  · exact h2.elim
/-! ### slices -/
abbrev WO := Rho → (Option Int → Rho → Prop) → EX → Prop
def OvX (X : Cx) (e : Option Expr) (ρ : Rho) (Φ : Option Int → Rho → Prop) (Ξ : EX) : Prop :=
  ∀ (B F0 : Hp) (st : Rho) (vst σ : St) (H : Hp) (Q : Option Int → Hp → Prop) (Wx : WX), Takes X Wx → vst.length = st.length → Rl X.K B F0 (st ++ ρ) (vst ++ σ) H →
    (∀ o ρ1 H', Φ o ρ1 → Rl X.K B F0 (st ++ ρ1) (vst ++ σ) H' → Q o H') →
    (∀ x ρ1 cls d F H', Ξ x ρ1 → RlF X.K B F0 F (st ++ ρ1) (vst ++ σ) H' → XDen X.K F x cls d → Wx cls d σ H') → ∃ t, PO X e t ∧ t σ H Q
theorem po_u (X : Cx) (e : Option Expr) : PO X e (fun σ H Q => ∃ t, PO X e t ∧ t σ H Q) := ⟨fun pins s σ H Q I h => let ⟨_, p, q⟩ := h; p.run pins s σ H Q I q⟩
def RfO (X : Cx) (e : Option Expr) (w : WO) : Prop := ∀ ρ Φ Ξ, w ρ Φ Ξ → OvX X e ρ Φ Ξ
def oNil : WO := fun ρ Φ _ => Φ none ρ
def oSome (a : WE) : WO := fun ρ Φ Ξ => a ρ (fun r ρ1 => ∃ n, r = .v (.int n) ∧ Φ (some n) ρ1) Ξ
theorem ro_nil : RfO X none oNil := fun ρ Φ Ξ h B F0 st vst σ H Q Wx tk hl R k kx => ⟨_, po_none, k none ρ H h R⟩
theorem ro_some (ha : RfE X a wa) : RfO X (some a) (oSome wa) := fun ρ Φ Ξ h B F0 st vst σ H Q Wx tk hl R k kx => ⟨_, po_some (pe_u X a), ha _ _ _ h B F0 st vst σ H _ Wx tk hl R (fun r ρ1 v H1 h1 R1 => by
  obtain ⟨n, rfl, h2⟩ := h1
  exact ⟨n, R1.headI, k _ ρ1 H1 h2 R1.drop⟩) kx⟩
theorem cut_all {ds : List D} {l u : Option Int} {n : Nat} (h : HT.sIx n 0 l = 0 ∧ HT.sIx n n u = n) (hn : n = ds.length) : cutD ds l u = ds := by
  subst hn
  unfold cutD
  rw [h.1, h.2]
  simp
def slW : D → Option Int → Option Int → (T → Prop) → Prop
  | .lst ds, l, u, k => k (.lst ((cutD ds l u).map T.v))
  | .tup ds, l, u, k => k (.v (.tup (cutD ds l u)))
  | .str w, l, u, k => w.length ≤ 100000 ∧ k (.v (.str (Txt.slice w l u)))
  | _, _, _, _ => False
def wSl (a : WE) (lo hi : WO) : WE := fun ρ Φ Ξ => a ρ (fun r ρ1 => lo ρ1 (fun l ρ2 => hi ρ2 (fun u ρ3 => slW r.d l u fun t => Φ t ρ3) Ξ) Ξ) Ξ
theorem slr_u : SlR X (fun x l u H Q => ∃ r, SlR X r ∧ r x l u H Q) := fun pins s σ H x v vl vu lo hi sl Q I rx hs pl pu h => let ⟨_, p, q⟩ := h; p pins s σ H x v vl vu lo hi sl Q I rx hs pl pu q
theorem rf_sl {lo hi : Option Expr} {wl wh : WO} (ha : RfE X a wa) (h1 : RfO X lo wl) (h2 : RfO X hi wh) : RfE X (.Subscript a (.Slice lo hi none p2) pos) (wSl wa wl wh) := fun ρ Φ Ξ h B F0 st vst σ H Q Wx tk hl R k kx =>
  ⟨_, pe_slice slr_u (pe_u X a) (po_u X lo) (po_u X hi), ha _ _ _ h B F0 st vst σ H _ Wx tk hl R (fun r ρ1 v H1 g1 R1 =>
    h1 _ _ _ g1 B F0 (some (.v r.d) :: st) (some v :: vst) σ H1 _ Wx tk (sl1 hl) (Rl.frz1 R1) (fun l ρ2 H2 g2 R2 => h2 _ _ _ g2 B F0 (some (.v r.d) :: st) (some v :: vst) σ H2 _ Wx tk (sl1 hl) R2 (fun u ρ3 H3 g3 R3 => by
      have R3' : Rl X.K B F0 (([r.d].map fun d => some (T.v d)) ++ (st ++ ρ3)) ([v].map some ++ (vst ++ σ)) H3 := R3
      obtain ⟨F, eF, hd, mk1, mkl, mk⟩ := R3'.elimN rfl
      obtain ⟨v', e, hd⟩ := denl1 hd
      cases e
      generalize r.d = rd at g3 hd
      unfold slW at g3
      split at g3
      · cases hd with
        | lst hq q => exact ⟨_, sl_list, _, _, rfl, eF.sqL hq, fun p hp => k _ ρ3 _ _ g3 (mkl _ _ p q.cut hp)⟩
      · cases hd with
        | tup hq q =>
          refine ⟨_, sl_tupA, _, _, rfl, SqT.of (eF.t hq), fun hh => ?_, fun _ p hp => k _ ρ3 _ _ g3 (mk _ _ p q.cut hp)⟩
          rw [cut_all hh q.length] at g3
          exact k _ ρ3 _ _ g3 (mk1 _ _ (.tup hq q))
      · cases hd
        exact ⟨_, C8.sl_txt, _, rfl, by rw [sizeLine_eq]; omega, k _ ρ3 _ _ g3.2 (mk1 _ _ (.str _))⟩
      · exact g3.elim) (fun x ρ1 cls d F H' hx RF xd => kx x ρ1 cls d F H' hx RF.drop' xd)) (fun x ρ1 cls d F H' hx RF xd => kx x ρ1 cls d F H' hx RF.drop' xd)) kx⟩
/-! ### fields -/
def wFld (C : Addr) (f : Str) (a : WE) : WE := fun ρ Φ Ξ => a ρ (fun r ρ1 => match r.d with
  | .obj C' fs => C' = C ∧ ∃ d, fs.lookup f = some d ∧ Φ (.v d) ρ1
  | _ => False) Ξ
theorem rf_fld {f : Str} {C : Addr} (hc : Cls X.K C) (hn : NoAttr X.K C f) (ha : RfE X a wa) (hb : attributeBase a f X.env (eval a X.env) = eval a X.env := by rfl) : RfE X (.Attribute a f pos) (wFld C f wa) := fun ρ Φ Ξ h B F0 st vst σ H Q Wx tk hl R k kx =>
  ⟨_, pe_fld (pe_u X a) hb, ha _ _ _ h B F0 st vst σ H _ Wx tk hl R (fun r ρ1 v H1 g1 R1 => by
    obtain ⟨F, eF, hd, mk⟩ := (Rl.frz1 R1).elim
    generalize r.d = rd at g1 hd
    split at g1
    · obtain ⟨rfl, d, hf, g2⟩ := g1
      cases hd with
      | obj h1 h2 h3 =>
        obtain ⟨w, hw, dw⟩ := lookup_den h2 h3 hf
        exact ⟨_, _, _, _, w, rfl, eF.i h1, hc, hn, hw, k _ ρ1 w H1 g2 (mk w d dw)⟩
    · exact g1.elim) kx⟩
/-! ### calls of built-ins -/
theorem callr_u {f : Value} : CallR X f (fun vs H Q => ∃ q, CallR X f q ∧ q vs H Q) := fun pins s σ H xs us Q I r h => let ⟨_, p, q⟩ := h; p pins s σ H xs us Q I r q
def CallX (X : Cx) (f : Value) (ds : List D) (Φ : T → Prop) : Prop :=
  ∀ (B F0 : Hp) (ρ : Rho) (σ : St) (H : Hp) (vs : List V) (Q : VK), vs.length = ds.length → Rl X.K B F0 ((ds.map fun d => some (T.v d)) ++ ρ) (vs.map some ++ σ) H →
    (∀ t w H', Φ t → Rl X.K B F0 (some t :: ρ) (some w :: σ) H' → Q w H') → ∃ q, CallR X f q ∧ q vs H Q
section
variable {f : Value} {q : List V → Hp → VK → Prop} {ds us : List D} {z : D} {Φ : T → Prop}
theorem cx_plain (hc : CallR X f q) (hr : ∀ (H : Hp) (vs : List V) (Q : VK), DenL X.K H vs ds → (∀ w, (∀ F, Den X.K F w z) → Q w H) → q vs H Q) (k : Φ (.v z)) : CallX X f ds Φ := fun B F0 ρ σ H vs Q hl R kk =>
  ⟨q, hc, hr H vs Q (R.denN hl) fun w hw => kk _ w H k ((Rl.dropN (ρ1 := ds.map fun d => some (T.v d)) (σ1 := vs.map some) (by simp [hl]) R).pushS hw)⟩
theorem cx_lst (hc : CallR X f q) (hr : ∀ (F H : Hp) (vs : List V) (Q : VK), Sub F H → DenL X.K F vs ds → (∀ ws p, DenL X.K F ws us → H p = none → Q (.ref p) (upd H p (.lst ws))) → q vs H Q) (k : Φ (.lst (us.map T.v))) : CallX X f ds Φ := fun B F0 ρ σ H vs Q hl R kk => by
  obtain ⟨F, eF, hd, _, mk, _⟩ := R.elimN hl
  exact ⟨q, hc, hr F H vs Q eF hd fun ws p hw hp => kk _ _ _ k (mk ws us p hw hp)⟩
end
abbrev BW := List D → (T → Prop) → Prop
def wB (w : BW) (as : WA) : WE := fun ρ Φ Ξ => as ρ (fun ds ρ1 => w ds fun t => Φ t ρ1) Ξ
theorem rf_callB {id : String} {f : Str} {w : BW} (hw : ∀ ds Φ, w ds Φ → CallX X (.builtin id) ds Φ) (hv : bootBuiltins f = some (.builtin id)) (hm : X.mg f = none) (ha : RfA X (e :: es) va) (hg : Gl X f := by rfl) (hn : f ≠ "__name__" := by decide) (hdb : (f == ("__debug__" : Str)) = false := by decide)
    (he : starEach (e :: es) X.env = (false, eval e X.env) :: starEach es X.env := by rfl) (hpl : (backTo pos (starEach es X.env)).any (·.1) = false := by rfl) : RfE X (.Call (.Name f p) (e :: es) [] pos) (wB w va) := fun ρ Φ Ξ h B F0 st vst σ H Q Wx tk hl R k kx =>
  ⟨_, pe_callB callr_u hg hm hv (pa_u X (e :: es)) hn hdb he hpl, ha _ _ _ h B F0 st vst σ H _ Wx tk hl R (fun ds ρ1 vs H1 h1 hl1 R1 => hw _ _ h1 B F0 (st ++ ρ1) (vst ++ σ) H1 vs Q hl1 R1 fun t w' H2 ht R2 => k t ρ1 w' H2 ht R2) kx⟩
theorem rf_callTy {T' : String} {f : Str} {w : BW} (hw : ∀ ds Φ, w ds Φ → CallX X (.type T') ds Φ) (hv : bootBuiltins f = some (.type T')) (hm : X.mg f = none) (ha : RfA X (e :: es) va) (hg : Gl X f := by rfl) (hn : f ≠ "__name__" := by decide) (hdb : (f == ("__debug__" : Str)) = false := by decide)
    (he : starEach (e :: es) X.env = (false, eval e X.env) :: starEach es X.env := by rfl) (hpl : (backTo pos (starEach es X.env)).any (·.1) = false := by rfl) : RfE X (.Call (.Name f p) (e :: es) [] pos) (wB w va) := fun ρ Φ Ξ h B F0 st vst σ H Q Wx tk hl R k kx =>
  ⟨_, pe_callTy callr_u hg hm hv (pa_u X (e :: es)) hn hdb he hpl, ha _ _ _ h B F0 st vst σ H _ Wx tk hl R (fun ds ρ1 vs H1 h1 hl1 R1 => hw _ _ h1 B F0 (st ++ ρ1) (vst ++ σ) H1 vs Q hl1 R1 fun t w' H2 ht R2 => k t ρ1 w' H2 ht R2) kx⟩
/-! ### calls of own defs -/
def wCall (R : Pr) (as : WA) : WE := fun ρ Φ Ξ => as ρ (fun ds ρ1 => R (ds.map T.v) (fun r _ => Φ r ρ1) fun x => Ξ x ρ1) Ξ
theorem rf_call {k : Nat} {f : Str} {R : Pr} (Fd : Fn X.prog X.w X.K X.mg X.base k f R) (hr : Room k X.A) (ha : RfA X (e :: es) va) (hg : Gl X f := by rfl) (hdb : (f == ("__debug__" : Str)) = false := by decide)
    (he : starEach (e :: es) X.env = (false, eval e X.env) :: starEach es X.env := by rfl) (hpl : (backTo pos (starEach es X.env)).any (·.1) = false := by rfl) : RfE X (.Call (.Name f p) (e :: es) [] pos) (wCall R va) := by
  obtain ⟨fa, fd, ps, F, hm, hk, hb⟩ := Fd
  exact fun ρ Φ Ξ h B F0 st vst σ H Q Wx tk hl R0 k kx => ⟨_, pe_callS F hr hg hm hk hb (E := L2.WE Wx) (fun σ => passAt tk σ) (pa_u X (e :: es)) hdb he hpl, ha _ _ _ h B F0 st vst σ H _ Wx tk hl R0 (fun ds ρ1 vs H1 h1 hl1 R1 => by
    obtain ⟨F', _, Rc, back, back2⟩ := R1.callee hl1
    exact ⟨H1, F', ds.map T.v, _, _, by simpa using hl1, Rc, h1, fun r' ts' v H' e h => k _ ρ1 v H' e (back _ _ _ _ _ h), fun x cls d F2 H' e h hx => kx x ρ1 cls d F2 H' e (back2 F2 _ _ _ h) hx⟩) kx⟩
end
end Vl
end
section
set_option maxRecDepth 100000
/-! Wp5: built-in functions; isinstance; calls that change their first argument; making objects. -/
namespace Vl
open PySem L2
def bLen : BW
  | [.lst ds], k => ds.length ≤ 1000000 ∧ k (.v (.int ds.length))
  | [.tup ds], k => ds.length ≤ 1000000 ∧ k (.v (.int ds.length))
  | [.str w], k => w.length ≤ 1000000 ∧ k (.v (.int w.length))
  | _, _ => False
def bAbs : BW
  | [.int n], k => k (.v (.int (if n < 0 then -n else n)))
  | _, _ => False
def bInt : BW
  | [.int n], k => k (.v (.int n))
  | [.bl b], k => k (.v (.int (if b then 1 else 0)))
  | _, _ => False
def bMax2 : BW
  | [.int n, .int m], k => k (.v (.int (max n m)))
  | _, _ => False
def bMin2 : BW
  | [.int n, .int m], k => k (.v (.int (min n m)))
  | _, _ => False
def bSum : BW
  | [.lst ds], k => ∃ ns : List Int, ds = ns.map D.int ∧ k (.v (.int ns.sum))
  | [.tup ds], k => ∃ ns : List Int, ds = ns.map D.int ∧ k (.v (.int ns.sum))
  | _, _ => False
def bSortI : BW
  | [.lst ds], k => ∃ ns ms : List Int, ds = ns.map D.int ∧ ms.Perm ns ∧ ms.Pairwise (· ≤ ·) ∧ k (.lst ((ms.map D.int).map T.v))
  | _, _ => False
def bSortS : BW
  | [.lst ds], k => ∃ ns ms : List Str, ds = ns.map D.str ∧ ns.length < 64 ∧ (∀ ys : List Str, ys.Perm ns → PyProof.Rows.sortedS ys = true → ys = ms) ∧ k (.lst ((ms.map D.str).map T.v))
  | _, _ => False
def bSortK : BW
  | [.lst ds], k => ∃ (ks ms : List (List Key)) (sh : Nat → Bool), ds = ks.map tK ∧ ms.Perm ks ∧ (ms.Pairwise fun a b => ltK b a = false) ∧ (∀ k ∈ ks, ShK sh 0 k ∧ k ≠ []) ∧ k (.lst ((ms.map tK).map T.v))
  | _, _ => False
def bList : BW
  | [.lst ds], k => k (.lst (ds.map T.v))
  | [.tup ds], k => k (.lst (ds.map T.v))
  | _, _ => False
section
variable {X : Cx} {ds : List D} {Φ : T → Prop}
theorem bLen_ok (h : bLen ds Φ) : CallX X (.builtin "len") ds Φ := by
  unfold bLen at h
  split at h
  · exact cx_plain call_len (fun H vs Q hd k => by
      obtain ⟨v, rfl, hx⟩ := denl1 hd
      cases hx with
      | lst hq q => exact ⟨_, _, rfl, .inl ⟨_, hq, by rw [q.length]⟩, k _ fun _ => .int _⟩) h.2
  · exact cx_plain call_len (fun H vs Q hd k => by
      obtain ⟨v, rfl, hx⟩ := denl1 hd
      cases hx with
      | tup hq q => exact ⟨_, _, rfl, .inr ⟨_, SqT.of hq, by rw [q.length]⟩, k _ fun _ => .int _⟩) h.2
  · exact cx_plain call_len (fun H vs Q hd k => by
      obtain ⟨v, rfl, hx⟩ := denl1 hd
      cases hx with
      | str x => exact ⟨_, _, rfl, ⟨by rw [sizeLine_eq]; omega, rfl⟩, k _ fun _ => .int _⟩) h.2
  · exact h.elim
theorem bAbs_ok (h : bAbs ds Φ) : CallX X (.builtin "abs") ds Φ := by
  unfold bAbs at h
  split at h
  · exact cx_plain call_abs (fun H vs Q hd k => by
      obtain ⟨v, rfl, hx⟩ := denl1 hd
      cases hx
      exact ⟨_, rfl, k _ fun _ => .int _⟩) h
  · exact h.elim
theorem bInt_ok (h : bInt ds Φ) : CallX X (.type "int") ds Φ := by
  unfold bInt at h
  split at h
  · exact cx_plain call_int1 (fun H vs Q hd k => by
      obtain ⟨v, rfl, hx⟩ := denl1 hd
      cases hx
      exact .inl ⟨_, rfl, k _ fun _ => .int _⟩) h
  · exact cx_plain call_int1 (fun H vs Q hd k => by
      obtain ⟨v, rfl, hx⟩ := denl1 hd
      cases hx
      exact .inr ⟨_, rfl, k _ fun _ => .int _⟩) h
  · exact h.elim
theorem bMax2_ok (hc : X.calm = true) (h : bMax2 ds Φ) : CallX X (.builtin "max") ds Φ := by
  unfold bMax2 at h
  split at h
  · exact cx_plain (call_max2 hc) (fun H vs Q hd k => by
      obtain ⟨v, v', rfl, hx, hx'⟩ := denl2 hd
      cases hx; cases hx'
      have e : ∀ n m : Int, (if m > n then m else n) = max n m := fun n m => by simp only [Int.max_def]; split <;> split <;> omega
      refine ⟨_, _, rfl, ?_⟩
      rw [e]
      exact k _ fun _ => .int _) h
  · exact h.elim
theorem bMin2_ok (hc : X.calm = true) (h : bMin2 ds Φ) : CallX X (.builtin "min") ds Φ := by
  unfold bMin2 at h
  split at h
  · exact cx_plain (call_min2 hc) (fun H vs Q hd k => by
      obtain ⟨v, v', rfl, hx, hx'⟩ := denl2 hd
      cases hx; cases hx'
      have e : ∀ n m : Int, (if m < n then m else n) = min n m := fun n m => by simp only [Int.min_def]; split <;> split <;> omega
      refine ⟨_, _, rfl, ?_⟩
      rw [e]
      exact k _ fun _ => .int _) h
  · exact h.elim
theorem bSortI_ok (h : bSortI ds Φ) : CallX X (.builtin "sorted") ds Φ := by
  unfold bSortI at h
  split at h
  · obtain ⟨ns, ms, rfl, h1, h2, h⟩ := h
    exact cx_lst (us := ms.map D.int) cr_sortedI (fun F H vs Q eF hd k => by
      obtain ⟨v, rfl, hx⟩ := denl1 hd
      cases hx with
      | lst hq q => exact ⟨_, ns, rfl, by rw [← den_ints q]; exact eF.sqL hq, fun ns' p g1 g2 hp => by
          have : ns' = ms := List.Perm.eq_of_pairwise (le := fun a b : Int => a ≤ b) (fun a b _ _ h1 h2 => Int.le_antisymm h1 h2) g2 h2 (g1.trans h1.symm)
          subst this
          exact k _ p (ints_den _) hp⟩) h
  · exact h.elim
theorem bSortS_ok (h : bSortS ds Φ) : CallX X (.builtin "sorted") ds Φ := by
  unfold bSortS at h
  split at h
  · obtain ⟨ns, ms, rfl, hz, hu, h⟩ := h
    exact cx_lst (us := ms.map D.str) cr_sortedS (fun F H vs Q eF hd k => by
      obtain ⟨v, rfl, hx⟩ := denl1 hd
      cases hx with
      | lst hq q => exact ⟨_, ns, rfl, by rw [← den_strs q]; exact eF.sqL hq, hz, fun ys p g1 g2 hp => by
          rw [hu ys g1 g2]
          exact k _ p (strs_den _) hp⟩) h
  · exact h.elim
theorem bSortK_ok (h : bSortK ds Φ) : CallX X (.builtin "sorted") ds Φ := by
  unfold bSortK at h
  split at h
  · obtain ⟨ks, ms, sh, rfl, h1, h2, hs, h⟩ := h
    exact cx_lst (us := ms.map tK) (cr_sortM sh) (fun F H vs Q eF hd k => by
      obtain ⟨v, rfl, hx⟩ := denl1 hd
      cases hx with
      | @lst a xs _ hq q =>
        obtain ⟨g1, g2⟩ := keysAt q
        refine ⟨_, xs, keyAt X.K F, rfl, eF.sqL hq, fun x hx => ?_, fun ys p pm srt hp => ?_⟩
        · obtain ⟨t, e1, e2⟩ := den_tK (g2 x hx)
          have hk : keyAt X.K F x ∈ ks := by rw [← g1]; exact List.mem_map.mpr ⟨x, hx, rfl⟩
          exact ⟨t, e1, SqT.of (eF.t e2), hs _ hk⟩
        · have hy : ∀ x ∈ ys, Den X.K F x (tK (keyAt X.K F x)) := fun x hx => g2 x (pm.mem_iff.mp hx)
          have : ys.map (keyAt X.K F) = ms := List.Perm.eq_of_pairwise (le := fun a b => ltK b a = false) (fun a b _ _ u1 u2 => ltK_total u2 u1) (List.pairwise_map.mpr srt) h2 ((pm.map _).trans (by rw [g1]; exact h1.symm))
          rw [← this] at k
          exact k ys p (den_all hy) hp) h
  · exact h.elim
theorem bList_ok (h : bList ds Φ) : CallX X (.type "list") ds Φ := by
  unfold bList at h
  split at h
  · exact cx_lst call_list_of (fun F H vs Q eF hd k => by
      obtain ⟨v, rfl, hx⟩ := denl1 hd
      cases hx with
      | lst hq q => exact ⟨_, _, rfl, .inl (eF.sqL hq), fun p hp => k _ p q hp⟩) h
  · exact cx_lst call_list_of (fun F H vs Q eF hd k => by
      obtain ⟨v, rfl, hx⟩ := denl1 hd
      cases hx with
      | tup hq q => exact ⟨_, _, rfl, .inr (SqT.of (eF.t hq)), fun p hp => k _ p q hp⟩) h
  · exact h.elim
end
section
variable {X : Cx} {e a b c : Expr} {es rest : List Expr} {ρ ρ1 : Rho} {Φ : T → Rho → Prop} {Ξ : EX} {wa wb wc : WE} {ta tb : WT} {va : WA} {vt : WAT} {pos p p2 p3 : Pos} {r : T}
/-- tuple(xs) -/
def wTuple (a : WE) : WE := fun ρ Φ Ξ => a ρ (fun r ρ1 => match r.d with
  | .lst ds => Φ (.v (.tup ds)) ρ1
  | .tup ds => Φ (.v (.tup ds)) ρ1
  | _ => False) Ξ
theorem rf_tuple (hm : X.mg "tuple" = none) (ha : RfE X a wa) (hg : Gl X "tuple" := by rfl) (he : starEach [a] X.env = (false, eval a X.env) :: starEach [] X.env := by rfl) : RfE X (.Call (.Name "tuple" p) [a] [] pos) (wTuple wa) := fun ρ Φ Ξ h B F0 st vst σ H Q Wx tk hl R k kx =>
  ⟨_, pe_tupleOf hg hm (pe_u X a) he, ha _ _ _ h B F0 st vst σ H _ Wx tk hl R (fun r ρ1 v H1 g1 R1 => by
    have R1' : Rl X.K B F0 (([r.d].map fun d => some (T.v d)) ++ (st ++ ρ1)) ([v].map some ++ (vst ++ σ)) H1 := Rl.frz1 R1
    obtain ⟨F, eF, hd, mk1, _, mk⟩ := R1'.elimN rfl
    obtain ⟨v', e, hd⟩ := denl1 hd
    cases e
    generalize r.d = rd at g1 hd
    split at g1
    · cases hd with
      | lst hq q => exact .inl ⟨_, _, rfl, eF.sqL hq, fun p hp => k _ ρ1 _ _ g1 (mk _ _ p q hp)⟩
    · cases hd with
      | tup hq q => exact .inr ⟨_, _, rfl, SqT.of (eF.t hq), k _ ρ1 _ _ g1 (mk1 _ _ (.tup hq q))⟩
    · exact g1.elim) kx⟩
/-- sum(xs), a list or a tuple of ints -/
theorem bSum_ok (hc : X.calm = true) {ds : List D} {Φ : T → Prop} (h : bSum ds Φ) (hl : ∃ es, ds = [.lst es]) : CallX X (.builtin "sum") ds Φ := by
  unfold bSum at h
  split at h
  · obtain ⟨ns, rfl, h⟩ := h
    exact cx_plain (cr_sum hc) (fun H vs Q hd k => by
      obtain ⟨v, rfl, hx⟩ := denl1 hd
      cases hx with
      | lst hq q => exact ⟨_, ns, rfl, by rw [← den_ints q]; exact hq, k _ fun _ => .int _⟩) h
  · obtain ⟨es, e⟩ := hl; cases e
  · exact h.elim
/-! ### isinstance -/
def D.okP : D → Bool | .obj _ _ => false | .ref _ => false | .ty _ => false | .dit _ => false | _ => true
def isiB : String → D → Bool
  | "int", d => d.isInt
  | "bool", d => d.isBl
  | "str", d => d.isStr
  | "tuple", d => d.isTup
  | "list", d => d.isLst
  | "dict", d => d.isDic
  | _, _ => false
def D.okC (C : Addr) (d : D) : Prop := d.okP = true ∨ ∃ fs, d = .obj C fs
/-- objects of the class C may be asked, too -/
def wIsiC (C : Addr) (n : String) (a : WE) : WE := fun ρ Φ Ξ => a ρ (fun r ρ1 => r.d.okC C ∧ Φ (.v (.bl (isiB n r.d))) ρ1) Ξ
theorem isi_run {n : String} {f : Str} (hk : ∀ d : D, d.isOk X.K → PySem.W.kitOne X.K d.tyv (.type n) = some (isiB n d)) (hv : bootBuiltins f = some (.type n)) (hm : X.mg f = none) (hmi : X.mg "isinstance" = none) {P : D → Prop} (hP : ∀ d, P d → d.isOk X.K) (ha : RfE X a wa) (hgf : Gl X f) (hnf : f ≠ "__name__") (hdf : (f == ("__debug__" : Str)) = false) (hg : Gl X "isinstance")
    (h1 : starEach [a, .Name f p2] X.env = (false, eval a X.env) :: starEach [.Name f p2] X.env) (h2 : starEach [.Name f p2] X.env = (false, eval (.Name f p2) X.env) :: starEach [] X.env) (hpl : (backTo pos (starEach [.Name f p2] X.env)).any (·.1) = false) :
    RfE X (.Call (.Name "isinstance" p) [a, .Name f p2] [] pos) (fun ρ Φ Ξ => wa ρ (fun r ρ1 => P r.d ∧ Φ (.v (.bl (isiB n r.d))) ρ1) Ξ) := fun ρ Φ Ξ h B F0 st vst σ H Q Wx tk hl R k kx =>
  ⟨_, pe_callB call_isi hg hmi PyProof.Rows.boot_isinstance (pa_cons (pe_u X a) (pa_cons (pe_bltn (v := .ty n) hgf hm hv rfl hnf hdf) pa_nil h2) h1) (by decide) (by decide) h1 hpl, ha _ _ _ h B F0 st vst σ H _ Wx tk hl R (fun r ρ1 v H1 g1 R1 => by
    have R2 := Rl.frz1 R1
    exact ⟨v, .ty n, r.d.tyv, .type n, isiB n r.d, rfl, .ty n, den_tyx R2.den (hP _ g1.1), hk _ (hP _ g1.1), k _ ρ1 _ H1 g1.2 (R2.drop.pushS fun _ => .bl _)⟩) kx⟩
theorem kits (K : PySem.W.Frag) (n : String) (hn : n = "int" ∨ n = "bool" ∨ n = "str" ∨ n = "tuple" ∨ n = "list" ∨ n = "dict") (d : D) (ok : d.isOk K) : PySem.W.kitOne K d.tyv (.type n) = some (isiB n d) := by
  rcases hn with rfl | rfl | rfl | rfl | rfl | rfl
  · exact kit_i ok
  · exact kit_b ok
  · exact kit_s ok
  · exact kit_t ok
  · exact kit_l ok
  · exact kit_d ok
theorem D.okP_ok {K : PySem.W.Frag} {d : D} (h : d.okP = true) : d.isOk K := by cases d <;> first | trivial | cases h
theorem rf_isiC {n : String} {f : Str} {C : Addr} (hC : ClsI X.K C) (hn : n = "int" ∨ n = "bool" ∨ n = "str" ∨ n = "tuple" ∨ n = "list" ∨ n = "dict") (hv : bootBuiltins f = some (.type n)) (hm : X.mg f = none) (hmi : X.mg "isinstance" = none) (ha : RfE X a wa) (hgf : Gl X f := by rfl) (hnf : f ≠ "__name__" := by decide) (hdf : (f == ("__debug__" : Str)) = false := by decide) (hg : Gl X "isinstance" := by rfl)
    (h1 : starEach [a, .Name f p2] X.env = (false, eval a X.env) :: starEach [.Name f p2] X.env := by rfl) (h2 : starEach [.Name f p2] X.env = (false, eval (.Name f p2) X.env) :: starEach [] X.env := by rfl) (hpl : (backTo pos (starEach [.Name f p2] X.env)).any (·.1) = false := by rfl) :
    RfE X (.Call (.Name "isinstance" p) [a, .Name f p2] [] pos) (wIsiC C n wa) := isi_run (kits X.K n hn) hv hm hmi (P := fun d => d.okC C) (fun d h => by
      rcases h with h | ⟨fs, rfl⟩
      · exact D.okP_ok h
      · exact hC) ha hgf hnf hdf hg h1 h2 hpl
/-! ### making an object -/
def wNew (C : Addr) (R : Pr) (as : WA) : WE := fun ρ Φ Ξ => as ρ (fun ds ρ1 => ∀ a, R (.at_ a (.obj C []) :: ds.map T.v) (fun r' ts' => r' = .v .non ∧ ∃ u' more, ts' = .at_ a u' :: more ∧ Φ u' ρ1) (fun _ => False)) Ξ
theorem rf_new {k : Nat} {x : Str} {C : Addr} {R : Pr} (c : Cn X.prog X.w X.K X.mg X.base k x C R) (hr : Room (k + 1) X.A) (ha : RfA X (e :: es) va) (hg : Gl X x := by rfl)
    (hdb : (x == ("__debug__" : Str)) = false := by decide) (he : starEach (e :: es) X.env = (false, eval e X.env) :: starEach es X.env := by rfl) (hpl : (backTo pos (starEach es X.env)).any (·.1) = false := by rfl) : RfE X (.Call (.Name x p) (e :: es) [] pos) (wNew C R va) := by
  obtain ⟨fa, fd, ps, M, F, hm, hb⟩ := c
  refine fun ρ Φ Ξ h B F0 st vst σ H Q Wx tk hl R0 kk kx => ⟨_, pe_make M F hr hg hm hb .nil passL (pa_u X (e :: es)) hdb he hpl, ha _ _ _ h B F0 st vst σ H _ Wx tk hl R0 (fun ds ρ1 vs H1 h1 hl2 R2 => ?_) kx⟩
  intro q dx hq hdx ne
  have sm : Same H1 (upd H1 dx (.own q)) := fun b w hw => by rw [upd_ne (ne_of_none hw hdx)]; exact hw
  have hq' : upd H1 dx (.own q) q = none := by rw [upd_ne (Ne.symm ne)]; exact hq
  have R3 := Rl.newOwn (ts := []) (vs := []) (o := .ins C dx []) (t := .obj C []) (R2.heap sm) rfl hq' fun F H' A hH ho => .obj (fs := []) (ts := []) hH rfl ho
  have R4 : Rl X.K B F0 ((ds.map fun d => some (T.v d)) ++ ([] ++ (some (.obj C []) :: (st ++ ρ1)))) (vs.map some ++ ([] ++ (some (.ref q) :: (vst ++ σ)))) (upd (upd H1 dx (.own q)) q (.ins C dx [])) :=
    Rl.swap (ρ1 := [some (.obj C [])]) (ρ2 := ds.map fun d => some (T.v d)) (σ1 := [some (.ref q)]) (σ2 := vs.map some) rfl (by simp [hl2]) R3
  obtain ⟨B', F', a, hv1, _, Rc, back⟩ := R4.calleeG (i := 0) (u0 := .obj C []) (t1 := .obj C []) hl2 rfl rfl (.inl rfl) (fun _ _ e => by cases e) fun F H v A o => by
    obtain ⟨a, _, _, _, e, _⟩ := o.objI
    exact ⟨a, e⟩
  simp at hv1
  subst hv1
  refine ⟨B', F', .at_ q (.obj C []) :: ds.map T.v, _, _, by simpa using hl2, by simpa [List.map_map, Function.comp_def] using Rc, h1 q, fun r' ts' v H' e h => ?_, fun _ _ _ _ _ h _ _ => h.elim⟩
  obtain ⟨rfl, u', more, rfl, hp⟩ := e
  have h2 := back _ _ _ _ _ _ h
  have h3 : Rl X.K B F0 (some (.v .non) :: some u' :: (st ++ ρ1)) (some v :: some (.ref q) :: (vst ++ σ)) H' := h2
  refine ⟨?_, kk _ ρ1 _ H' hp h3.drop⟩
  obtain ⟨F, _, hd⟩ := h3.elimF
  cases hd
  rfl
end
end Vl
end
section
set_option maxRecDepth 100000
/-! Wp6: what is walked; comprehensions. -/
namespace Vl
open PySem L2
abbrev WI := Rho → (List D → Rho → Prop) → EX → Prop
abbrev WG := D → Rho → (Rho → Prop) → Prop
/-- an iterator over ds has come -/
def IvX (X : Cx) (tg it : Expr) (ρ : Rho) (Φ : List D → Rho → Prop) (Ξ : EX) : Prop := ∃ wi : TI, PI X tg it wi ∧ ∀ (B F0 : Hp) (st : Rho) (vst σ : St) (H : Hp) (Rk : It → Hp → Prop) (Wx : WX), Takes X Wx → vst.length = st.length → Rl X.K B F0 (st ++ ρ) (vst ++ σ) H →
  (∀ ds ρ1 J B1 F1 H1, Φ ds ρ1 → Rl X.K B1 F1 (st ++ ρ1) (vst ++ σ) H1 → Turns X.K J B1 F1 ds.length (fun i => ds.getD i .non) → Back X.K B F0 B1 F1 → Rk J H1) →
  (∀ x ρ1 cls d F H', Ξ x ρ1 → RlF X.K B F0 F (st ++ ρ1) (vst ++ σ) H' → XDen X.K F x cls d → Wx cls d σ H') → wi σ H Rk
def RfI (X : Cx) (tg it : Expr) (w : WI) : Prop := ∀ ρ Φ Ξ, w ρ Φ Ξ → IvX X tg it ρ Φ Ξ
def IterV (X : Cx) (tg : Expr) (x : V) (σ : St) (H1 : Hp) (R : It → Hp → Prop) : Prop := ∀ (pins : List (Addr × Obj)) (s : Shared) (u : Value), Inv X pins σ H1 s → RelV x u → wpAny (model X.prog X.w) X.A (pyIter u) (PIE X pins σ tg R) X.xe s
section
variable {X : Cx} {tg e : Expr} {te : TE} {x : V} {σ : St} {H1 : Hp} {R : It → Hp → Prop} {a : Addr} {xs : List V}
theorem pi_any (he : PE X e te) : PI X tg e (fun σ H R => te σ H fun x H1 => IterV X tg x σ H1 R) := ⟨fun pins s σ H R I h => thn (he.run pins s σ H _ I h) fun v s1 ⟨x, H1, I1, r1, q1⟩ => q1 pins s1 v I1 r1⟩
theorem iv_list (hq : SqL X.K H1 a xs) (q : R (Itl X.K a) H1) : IterV X tg (.ref a) σ H1 R := fun pins s1 u I1 r1 => by
  cases r1
  obtain ⟨its, rv, p, hz⟩ := I1.list hq
  refine wpAny_pyIter_list p.isList ?_
  refine ⟨s1.heap.objs.size, [s1.heap.objs.size], _, _, H1, rfl, I1.kept (t' := s1.toks) fun b o e => Heap.get?_push_of_some _ e, turn_list a _, ⟨_, Heap.get?_push_size _ rfl, rfl, rfl⟩, fun b hb => ?_, q⟩
  have e : b = s1.heap.objs.size := by simpa using hb
  subst e
  exact I1.fpOk (Nat.le_refl _) (I1.hok.fresh (Nat.le_refl _))
theorem iv_tup (hq : SqT X.K H1 a xs) (q : R (Itt X.K a) H1) : IterV X tg (.ref a) σ H1 R := fun pins s1 u I1 r1 => by
  cases r1
  obtain ⟨its, rv, p, hz⟩ := I1.tuple hq
  refine wpAny_pyIter_tuple (show s1.heap.IsTuple a its.toArray from p) ?_
  refine ⟨s1.heap.objs.size, [s1.heap.objs.size], _, _, H1, rfl, I1.kept (t' := s1.toks) fun b o e => Heap.get?_push_of_some _ e, turn_tuple a _, ⟨_, Heap.get?_push_size _ rfl, rfl, rfl⟩, fun b hb => ?_, q⟩
  have e : b = s1.heap.objs.size := by simpa using hb
  subst e
  exact I1.fpOk (Nat.le_refl _) (I1.hok.fresh (Nat.le_refl _))
theorem iv_str {w : Str} (q : R (Its w) H1) : IterV X tg (.str w) σ H1 R := fun pins s1 u I1 r1 => by
  obtain ⟨t, rfl⟩ := r1
  cases ha : w.cps.all (· < 128)
  · exact wpAny_pyIter_wide ha (pi_one (tk := s1.toks) I1 _ (turn_str _ w t "str_iterator" (.inr rfl)) ⟨_, Heap.get?_push_size _ rfl, rfl, rfl⟩ q)
  · exact wpAny_pyIter_ascii ha (pi_one (tk := s1.toks) I1 _ (turn_str _ w t "str_ascii_iterator" (.inl rfl)) ⟨_, Heap.get?_push_size _ rfl, rfl, rfl⟩ q)
/-- the keys of a dict, which is locked as it comes -/
theorem iv_keys (h : LkP H1 x fun y H2 => ∃ d o kvs, y = .ref d ∧ H2 d = some (.frz o (.dK kvs)) ∧ R (Itk d o kvs) H2) : IterV X tg x σ H1 R := fun pins s1 u I1 r1 => by
  have fin : ∀ (d : Addr) (o : Obj) (kvs : List (Key × V)) (H2 : Hp), Inv X pins σ H2 s1 → u = .ref d → H2 d = some (.frz o (.dK kvs)) → R (Itk d o kvs) H2 → wpAny (model X.prog X.w) X.A (pyIter u) (PIE X pins σ tg R) X.xe s1 := fun d o kvs H2 I2 eu hd q => by
    subst eu
    obtain ⟨hs, hgd, hx, es, ep, vs, hdt, hsz, kv, hm⟩ := I2.frzK hd
    refine iter_keys hs hgd hx hdt (pi_one (tk := s1.toks) I2 _ (turn_keys _ hdt) ⟨_, Heap.get?_push_size _ rfl, rfl, ?_⟩ q)
    rw [hsz] <;> rfl
  obtain ⟨d, rfl, q⟩ := h
  have eu : u = .ref d := r1
  rcases q with ⟨o, u', hd, d', o', kvs, e, h2, q⟩ | ⟨u', hd, mu, q⟩
  · cases e
    exact fin d o' kvs H1 I1 eu h2 q
  · obtain ⟨od, I2⟩ := I1.lock hd mu
    obtain ⟨d', o', kvs, e, h2, q⟩ := q od
    cases e
    exact fin d o' kvs _ I2 eu h2 q
end
section
variable {X : Cx} {tg it e a b c elt : Expr} {es : List Expr} {ifs : List Expr} {scope : Scope} {own : List (Str × Nat)} {ρ ρ1 ρ2 ρ3 ρF : Rho} {d x y z : D} {r t : T} {wa wb wc : WE} {ta tb : WT} {va : WA} {wi : WI} {wg : WG} {pos p p2 apos cpos px tpos : Pos} {i k n : Nat} {f xa : Str} {Z : Outs} {body : List Stmt} {elts : List Expr} {kk : Nat}
/-- what a value gives when it is walked -/
def walkW : D → (List D → Prop) → Prop
  | .lst ds, k => k ds
  | .tup ds, k => k ds
  | .str w, k => k (w.cps.toList.map fun c => D.str ⟨#[c]⟩)
  | .dic kvs, k => k (kvs.map fun q => kD q.1)
  | _, _ => False
theorem walk_ok {st : Rho} {vst σ : St} {B F0 H1 : Hp} {Φ : List D → Prop} {Rk : It → Hp → Prop} {v : V} (R1 : Rl X.K B F0 (some (.v d) :: (st ++ ρ1)) (some v :: (vst ++ σ)) H1) (h : walkW d Φ)
    (k : ∀ ds J B1 F1 H2, Φ ds → Rl X.K B1 F1 (st ++ ρ1) (vst ++ σ) H2 → Turns X.K J B1 F1 ds.length (fun i => ds.getD i .non) → Back X.K B F0 B1 F1 → Rk J H2) : IterV X tg v σ H1 Rk := by
  cases d with
  | lst ds =>
    replace h : Φ ds := h
    obtain ⟨F, RF, hd⟩ := R1.elimF
    cases hd with
    | @lst a xs _ hq q =>
      have sq : ∀ {B' F' ρ' σ' H'}, Same F F' → Rl X.K B' F' ρ' σ' H' → SqL X.K H' a xs := fun {B' F' ρ' σ' H'} sm R' => R'.same.sqL (sqL_ex sm hq)
      refine iv_list (sq (Same.refl _) RF.self.rl) (k ds _ B F H1 h RF.self.rl ⟨fun B' F' i ρ' σ' H' sm hi R' => ?_, fun B' F' i ρ' σ' H' sm hi R' => ⟨xs, sq sm R', by rw [q.length]; exact hi⟩⟩ (Back.of RF))
      have hlt : i < xs.length := by rw [q.length]; exact hi
      refine ⟨⟨xs, xs[i], sq sm R', List.getElem?_eq_getElem hlt⟩, ?_⟩
      rintro x H2 ⟨rfl, hx⟩
      obtain ⟨d, h1, h2⟩ := q.get' (hx xs (sq sm R'))
      have : ds.getD i .non = d := by rw [List.getD_eq_getElem?_getD, h1]; rfl
      rw [this]
      exact R'.pushF (h2.mono sm)
  | tup ds =>
    replace h : Φ ds := h
    obtain ⟨F, RF, hd⟩ := R1.elimF
    cases hd with
    | @tup a xs _ hq q =>
      have sq : ∀ {B' F' ρ' σ' H'}, Same F F' → Rl X.K B' F' ρ' σ' H' → SqT X.K H' a xs := fun {B' F' ρ' σ' H'} sm R' => SqT.of (R'.same.t (sm a _ hq))
      refine iv_tup (sq (Same.refl _) RF.self.rl) (k ds _ B F H1 h RF.self.rl ⟨fun B' F' i ρ' σ' H' sm hi R' => ?_, fun B' F' i ρ' σ' H' sm hi R' => ⟨xs, sq sm R', by rw [q.length]; exact hi⟩⟩ (Back.of RF))
      have hlt : i < xs.length := by rw [q.length]; exact hi
      refine ⟨⟨xs, xs[i], sq sm R', List.getElem?_eq_getElem hlt⟩, ?_⟩
      rintro x H2 ⟨rfl, hx⟩
      obtain ⟨d, h1, h2⟩ := q.get' (hx xs (sq sm R'))
      have : ds.getD i .non = d := by rw [List.getD_eq_getElem?_getD, h1]; rfl
      rw [this]
      exact R'.pushF (h2.mono sm)
  | str w =>
    replace h : Φ (w.cps.toList.map fun c => D.str ⟨#[c]⟩) := h
    obtain rfl := R1.headS
    refine iv_str (k _ _ B F0 H1 h R1.drop ⟨fun B' F' i ρ' σ' H' sm hi R' => ⟨show i < w.cps.size by simpa using hi, fun x H2 ⟨h1, cc, h2, h3⟩ => ?_⟩, fun B' F' i ρ' σ' H' sm hi R' => show w.cps.size ≤ i by simpa using hi⟩ Back.refl)
    subst h1; subst h3
    have hi2 : i < w.cps.size := by simpa using hi
    have : (w.cps.toList.map fun c => D.str ⟨#[c]⟩).getD i .non = .str ⟨#[cc]⟩ := by
      rw [List.getD_eq_getElem?_getD, List.getElem?_map, Array.getElem?_toList, h2]; rfl
    rw [this]
    exact R'.pushS fun _ => .str _
  | dic kvs =>
    replace h : Φ (kvs.map fun q => kD q.1) := h
    refine iv_keys (lock_any R1 ?_)
    intro d o ks B1 F1 H2 ev R2 h1 hk q bk
    have hlen : ks.length = kvs.length := by have := congrArg List.length hk; simpa using this
    refine ⟨d, o, ks, ev, R2.frzAt h1, k _ _ B1 F1 H2 h R2 ⟨fun B' F' i ρ' σ' H' sm hi R' => ⟨⟨R'.frzAt (sm _ _ h1), by simp at hi; omega⟩, ?_⟩, fun B' F' i ρ' σ' H' sm hi R' => ⟨R'.frzAt (sm _ _ h1), by simp at hi; omega⟩⟩ bk⟩
    rintro x H3 ⟨rfl, key, w, hx, rfl⟩
    obtain ⟨d', g0⟩ := keys_get hk hx
    have : (kvs.map fun p => kD p.1).getD i .non = kD key := by rw [List.getD_eq_getElem?_getD, List.getElem?_map, g0]; rfl
    rw [this]
    exact R'.pushS fun _ => kD_den key
  | _ => exact h.elim
/-- in a list, a tuple, a text, a dict -/
def iVal (a : WE) : WI := fun ρ Φ Ξ => a ρ (fun r ρ1 => walkW r.d fun ds => Φ ds ρ1) Ξ
theorem ri_val (ha : RfE X a wa) : RfI X tg a (iVal wa) := fun ρ Φ Ξ h => ⟨_, pi_any (pe_u X a), fun B F0 st vst σ H Rk Wx tk hl R k kx => ha _ _ _ h B F0 st vst σ H _ Wx tk hl R (fun r ρ1 v H1 h1 R1 => walk_ok (Rl.frz1 R1) h1 fun ds J B1 F1 H2 h2 R2 Tn bk => k ds ρ1 J B1 F1 H2 h2 R2 Tn bk) kx⟩
def iVals' (a : WE) : WI := fun ρ Φ Ξ => a ρ (fun r ρ1 => match r.d with
  | .dic kvs => Φ (kvs.map fun q => q.2) ρ1
  | _ => False) Ξ
theorem ri_values (ha : RfE X a wa) (hbase : attributeBase a "values" X.env (eval a X.env) = eval a X.env := by rfl) (hline : (apos.endLine == cpos.line) = true := by rfl) : RfI X tg (.Call (.Attribute a "values" apos) [] [] cpos) (iVals' wa) := fun ρ Φ Ξ h =>
  ⟨_, pi_values (pe_lk (pe_u X a)) hbase hline, fun B F0 st vst σ H Rk Wx tk hl R k kx => ha _ _ _ h B F0 st vst σ H _ Wx tk hl R (fun r ρ1 v H1 h1 R1 => by
    have R1' := Rl.frz1 R1
    generalize r.d = rd at h1 R1'
    split at h1
    · rename_i kvs
      refine lock_any R1' ?_
      intro d o ks B1 F1 H2 ev R2 g1 hk q bk
      have hlen : ks.length = kvs.length := by have := congrArg List.length hk; simpa using this
      refine ⟨d, o, ks, ev, R2.frzAt g1, k _ ρ1 _ B1 F1 H2 h1 R2 ⟨fun B' F' i ρ' σ' H' sm hi R' => ⟨⟨R'.frzAt (sm _ _ g1), by simp at hi; omega⟩, ?_⟩, fun B' F' i ρ' σ' H' sm hi R' => ⟨R'.frzAt (sm _ _ g1), by simp at hi; omega⟩⟩ bk⟩
      rintro x H3 ⟨rfl, key, hx⟩
      have hx2 : (ks.map (·.2))[i]? = some x := by rw [List.getElem?_map, hx]; rfl
      obtain ⟨d', g1, g2⟩ := q.get' hx2
      have : (kvs.map fun q => q.2).getD i .non = d' := by rw [List.getD_eq_getElem?_getD, g1]; rfl
      rw [this]
      exact R'.pushF (g2.mono sm)
    · exact h1.elim) kx⟩
/-- ranges -/
def iRng1 (as : WA) : WI := fun ρ Φ Ξ => as ρ (fun ds ρ1 => ∃ n : Int, ds = [.int n] ∧ -(2 ^ 40) ≤ n ∧ n ≤ 2 ^ 40 ∧ Φ ((List.range n.toNat).map fun i : Nat => D.int i) ρ1) Ξ
def iRng2 (as : WA) : WI := fun ρ Φ Ξ => as ρ (fun ds ρ1 => ∃ lo hi : Int, ds = [.int lo, .int hi] ∧ (-(2 ^ 40) ≤ lo ∧ lo ≤ 2 ^ 40 ∧ -(2 ^ 40) ≤ hi ∧ hi ≤ 2 ^ 40) ∧ Φ ((List.range (hi - lo).toNat).map fun i : Nat => D.int (lo + i)) ρ1) Ξ
theorem turns_rng {K : PySem.W.Frag} {B F : Hp} (lo : Int) (n : Nat) : Turns K (Itr lo n) B F ((List.range n).map fun i : Nat => D.int (lo + i)).length (fun i => ((List.range n).map fun i : Nat => D.int (lo + i)).getD i .non) :=
  ⟨fun B' F' i ρ' σ' H' sm hi R' => ⟨by simpa [Itr] using hi, fun x H2 ⟨h1, h2⟩ => by
    subst h1; subst h2
    have hi' : i < n := by simpa using hi
    have : ((List.range n).map fun i : Nat => D.int (lo + i)).getD i .non = .int (lo + i) := by simp [List.getD_eq_getElem?_getD, hi']
    rw [this]
    exact R'.pushS fun _ => .int _⟩, fun B' F' i ρ' σ' H' sm hi R' => by simpa [Itr] using hi⟩
theorem ri_range1 (ha : RfA X [a] va) (hm : X.mg "range" = none) (hg : Gl X "range" := by rfl) (he : starEach [a] X.env = [(false, eval a X.env)] := by rfl) : RfI X tg (.Call (.Name "range" p) [a] [] pos) (iRng1 va) := fun ρ Φ Ξ h =>
  ⟨_, pi_range1 hg hm (pa_u X [a]) he, fun B F0 st vst σ H Rk Wx tk hl R k kx => ha _ _ _ h B F0 st vst σ H _ Wx tk hl R (fun ds ρ1 vs H1 h1 hl1 R1 => by
    obtain ⟨n, rfl, z1, z2, h2⟩ := h1
    match vs, hl1 with
    | [v], _ =>
      have R2 : Rl X.K B F0 (some (.v (.int n)) :: (st ++ ρ1)) (some v :: (vst ++ σ)) H1 := R1
      refine ⟨n, by rw [R2.headI], by omega, by omega, k _ ρ1 _ B F0 H1 h2 R2.drop ?_ Back.refl⟩
      have := turns_rng (K := X.K) (B := B) (F := F0) 0 n.toNat
      simpa using this) kx⟩
theorem ri_range2 (ha : RfA X [a, b] va) (hm : X.mg "range" = none) (hg : Gl X "range" := by rfl) (he : starEach [a, b] X.env = [(false, eval a X.env), (false, eval b X.env)] := by rfl) (he2 : starEach [b] X.env = [(false, eval b X.env)] := by rfl) : RfI X tg (.Call (.Name "range" p) [a, b] [] pos) (iRng2 va) := fun ρ Φ Ξ h =>
  ⟨_, pi_range2 hg hm (pa_u X [a, b]) he he2, fun B F0 st vst σ H Rk Wx tk hl R k kx => ha _ _ _ h B F0 st vst σ H _ Wx tk hl R (fun ds ρ1 vs H1 h1 hl1 R1 => by
    obtain ⟨lo, hi, rfl, hz, h2⟩ := h1
    match vs, hl1 with
    | [v, u], _ =>
      have R2 : Rl X.K B F0 (some (.v (.int lo)) :: some (.v (.int hi)) :: (st ++ ρ1)) (some v :: some u :: (vst ++ σ)) H1 := R1
      exact ⟨lo, hi, by rw [R2.headI, R2.drop.headI], by omega, k _ ρ1 _ B F0 H1 h2 R2.drop.drop (turns_rng lo _) Back.refl⟩) kx⟩
/-! ### targets -/
def RfG (X : Cx) (tg : Expr) (w : WG) : Prop := ∀ d ρ k, w d ρ k → ∃ ρ2, Tg X tg d ρ ρ2 ∧ k ρ2
def RfK (X : Cx) (vs : List Nat) (tg : Expr) (w : WG) : Prop := ∀ d ρ k, w d ρ k → ∃ ρ2, TgK X vs tg d ρ ρ2 ∧ k ρ2
abbrev WGs := List D → Rho → (Rho → Prop) → Prop
def RfGs (X : Cx) (tgs : List Expr) (w : WGs) : Prop := ∀ ds ρ k, w ds ρ k → ds.length = tgs.length ∧ ∃ ρ2, TgS X tgs ds ρ ρ2 ∧ k ρ2
def RfKs (X : Cx) (vs : List Nat) (tgs : List Expr) (w : WGs) : Prop := ∀ ds ρ k, w ds ρ k → ds.length = tgs.length ∧ ∃ ρ2, TgKs X vs tgs ds ρ ρ2 ∧ k ρ2
def gName (j : Nat) : WG := fun d ρ k => k (ρ.set j (some (.v d)))
def gTup (ws : WGs) : WG := fun d ρ k => match d with
  | .tup ds => ws ds ρ k
  | _ => False
def gNil : WGs := fun ds ρ k => match ds with
  | [] => k ρ
  | _ => False
def gCons (g : WG) (gs : WGs) : WGs := fun ds ρ k => match ds with
  | d :: ds => g d ρ fun ρ1 => gs ds ρ1 k
  | [] => False
theorem rg_name {x : Str} (j : Nat) (g : Gd X) (hi : X.N[j]? = some x := by rfl) (hx : Loc X.env.scope x := by first | exact Or.inl rfl | exact Or.inr rfl) (hf : X.fn x = true ∨ X.env.scope.names.lookup x = some .local := by first | exact .inl rfl | exact .inr rfl) : RfG X (.Name x pos) (gName j) := fun d ρ k h => ⟨_, tg_name j g hi hx hf, h⟩
theorem rgs_nil : RfGs X [] gNil := fun ds ρ k h => by
  cases ds with
  | nil => exact ⟨rfl, _, tgs_nil, h⟩
  | cons _ _ => exact h.elim
theorem rgs_cons {tgs : List Expr} {ws : WGs} (h1 : RfG X tg wg) (h2 : RfGs X tgs ws) (hs : (assignEach (tg :: tgs) X.env).map (·.2) = assign tg X.env :: (assignEach tgs X.env).map (·.2) := by rfl) : RfGs X (tg :: tgs) (gCons wg ws) := fun ds ρ k h => by
  cases ds with
  | nil => exact h.elim
  | cons d ds =>
    obtain ⟨ρ1, t1, h⟩ := h1 _ _ _ h
    obtain ⟨l, ρ2, t2, h⟩ := h2 _ _ _ h
    exact ⟨by simp [l], ρ2, tgs_cons t1 t2 hs, h⟩
theorem rg_tup {tgs : List Expr} {ws : WGs} {kx : Nat} (g : Gd X) (h : RfGs X tgs ws) (hn : (assignEach tgs X.env).length = tgs.length := by rfl) (hst : (assignEach tgs X.env).findIdx? (·.1) = none := by rfl) : RfG X (.Tuple tgs kx pos) (gTup ws) := fun d ρ k hh => by
  unfold gTup at hh
  split at hh
  · obtain ⟨l, ρ2, t, hk⟩ := h _ _ _ hh
    exact ⟨ρ2, tg_tup g t l hn hst, hk⟩
  · exact hh.elim
theorem rk_name {vs : List Nat} {x : Str} (j : Nat) (hN : X.N.Nodup) (hj : j ∈ vs := by simp) (hi : X.N[j]? = some x := by rfl) (hx : Loc X.env.scope x := by first | exact Or.inl rfl | exact Or.inr rfl) (hf : X.fn x = true ∨ X.env.scope.names.lookup x = some .local := by first | exact .inl rfl | exact .inr rfl) : RfK X vs (.Name x pos) (gName j) := fun d ρ k h => ⟨_, tgk_name j hN hj hi hx hf, h⟩
theorem rks_nil {vs : List Nat} : RfKs X vs [] gNil := fun ds ρ k h => by
  cases ds with
  | nil => exact ⟨rfl, _, tgks_nil, h⟩
  | cons _ _ => exact h.elim
theorem rks_cons {vs : List Nat} {tgs : List Expr} {ws : WGs} (h1 : RfK X vs tg wg) (h2 : RfKs X vs tgs ws) (hs : (assignEach (tg :: tgs) X.env).map (·.2) = assign tg X.env :: (assignEach tgs X.env).map (·.2) := by rfl) : RfKs X vs (tg :: tgs) (gCons wg ws) := fun ds ρ k h => by
  cases ds with
  | nil => exact h.elim
  | cons d ds =>
    obtain ⟨ρ1, t1, h⟩ := h1 _ _ _ h
    obtain ⟨l, ρ2, t2, h⟩ := h2 _ _ _ h
    exact ⟨by simp [l], ρ2, tgks_cons t1 t2 hs, h⟩
theorem rk_tup {vs : List Nat} {tgs : List Expr} {ws : WGs} {kx : Nat} (hc : X.calm = true) (h : RfKs X vs tgs ws) (hn : (assignEach tgs X.env).length = tgs.length := by rfl) (hst : (assignEach tgs X.env).findIdx? (·.1) = none := by rfl) : RfK X vs (.Tuple tgs kx pos) (gTup ws) := fun d ρ k hh => by
  unfold gTup at hh
  split at hh
  · obtain ⟨l, ρ2, t, hk⟩ := h _ _ _ hh
    exact ⟨ρ2, tgk_tup hc t l hn hst, hk⟩
  · exact hh.elim
end
end Vl
end
section
set_option maxRecDepth 100000
/-! Wp7: list comprehensions. -/
namespace Vl
open PySem L2
/-- the slots that a comprehension used get back what they held -/
def restR (ρ0 : Rho) : Rho → List Nat → Rho
  | ρ', [] => ρ'
  | ρ', j :: vs => match slot ρ0 j with
    | some (.v d) => restR ρ0 (ρ'.set j (some (.v d))) vs
    | _ => restR ρ0 ρ' vs
section
variable {K : PySem.W.Frag} {B F0 : Hp} {ρ0 st : Rho} {σ vst : St} {H : Hp}
theorem Rl.stash (R : Rl K B F0 (st ++ ρ0) (vst ++ σ) H) (hl : vst.length = st.length) : ∀ vs : List Nat, ∃ (P : Rho) (Pv : St), Pv.length = P.length ∧ Rl K B F0 (P ++ (st ++ ρ0)) (Pv ++ (vst ++ σ)) H ∧
    ∀ (u : T) (w : V) (B' F' : Hp) (ρ' : Rho) (H' : Hp), Rl K B' F' (some u :: (P ++ (st ++ ρ'))) (some w :: (Pv ++ (vst ++ σ))) H' → Rl K B' F' (some u :: (st ++ restR ρ0 ρ' vs)) (some w :: (vst ++ σ)) H'
  | [] => ⟨[], [], rfl, R, fun u w B' F' ρ' H' h => h⟩
  | j :: vs => by
    obtain ⟨P, Pv, hp, R1, back⟩ := Rl.stash R hl vs
    by_cases hs : ∃ d, Vl.slot ρ0 j = some (.v d)
    · obtain ⟨d, hd⟩ := hs
      have R1' : Rl K B F0 ((P ++ st) ++ ρ0) ((Pv ++ vst) ++ σ) H := by simpa [List.append_assoc] using R1
      obtain ⟨v, e1, R2⟩ := R1'.get (by simp [hp, hl]) (slot_get hd)
      refine ⟨some (.v d) :: P, some v :: Pv, by simp [hp], by simpa [List.append_assoc] using R2, fun u w B' F' ρ' H' h => ?_⟩
      have h2 : Rl K B' F' (some (.v d) :: ((some u :: (P ++ st)) ++ ρ')) (some v :: ((some w :: (Pv ++ vst)) ++ σ)) H' := by
        have := Rl.swap (ρ1 := [some u]) (ρ2 := [some (.v d)]) (σ1 := [some w]) (σ2 := [some v]) (ρ3 := P ++ (st ++ ρ')) (σ3 := Pv ++ (vst ++ σ)) rfl rfl h
        simpa [List.append_assoc] using this
      have h3 := Rl.setSt (st := some u :: (P ++ st)) (vst := some w :: (Pv ++ vst)) j h2 (by simp [hp, hl])
      rw [set_self e1] at h3
      have h4 := back u w B' F' (ρ'.set j (some (.v d))) H' (by simpa [List.append_assoc] using h3)
      unfold restR
      rw [hd]
      exact h4
    · refine ⟨P, Pv, hp, R1, fun u w B' F' ρ' H' h => ?_⟩
      unfold restR
      split
      · exact absurd ⟨_, by assumption⟩ hs
      · exact back u w B' F' ρ' H' h
end
/-- the tests of a comprehension -/
def TsX (X : Cx) (ifs : List Expr) (ρ : Rho) (Φ : Bool → Rho → Prop) : Prop := ∀ (B F0 : Hp) (st : Rho) (vst σ : St) (H : Hp) (Q : Bool → Hp → Prop), vst.length = st.length → Rl X.K B F0 (st ++ ρ) (vst ++ σ) H → (∀ b ρ' H', Φ b ρ' → Rl X.K B F0 (st ++ ρ') (vst ++ σ) H' → Q b H') → ∃ t, PTs X ifs t ∧ t σ H Q
def RfTs (X : Cx) (ifs : List Expr) (w : WT) : Prop := ∀ ρ Φ, w ρ Φ EX0 → TsX X ifs ρ Φ
def tYes : WT := fun ρ Φ _ => Φ true ρ
section
variable {X : Cx} {tg it elt c : Expr} {ifs : List Expr} {scope : Scope} {own : List (Str × Nat)} {ρ ρ1 : Rho} {wi : WI} {wg : WG} {wc : WT} {we : WE} {pos : Pos} {vs : List Nat}
theorem rts_nil : RfTs X [] tYes := fun ρ Φ h B F0 st vst σ H Q hl R k => ⟨_, pts_nil, k _ _ H h R⟩
theorem rts_one (h : RfT X c wc) : RfTs X [c] wc := fun ρ Φ hh B F0 st vst σ H Q hl R k => ⟨_, pts_one (pt_u X c), h _ _ _ hh B F0 st vst σ H Q _ takes_none5 hl R k fun _ _ _ _ _ _ e _ _ => e.elim⟩
/-- what the turns of a comprehension have to do -/
def lcP (vs : List Nat) (tg : WG) (c : WT) (elt : WE) (ds : List D) (ρ1 : Rho) (Φ : T → Rho → Prop) : Prop :=
  ds.length ≤ 100000 ∧ ∃ I : List D → List T → Rho → Prop, I [] [] (wipeR ρ1 vs) ∧
    (∀ pre d post acc ρ', ds = pre ++ d :: post → I pre acc ρ' → tg d ρ' fun ρ2 => c ρ2 (fun b ρ3 => (b = true → elt ρ3 (fun r ρ4 => I (pre ++ [d]) (acc ++ [r]) (wipeR ρ4 vs)) EX0) ∧ (b = false → I (pre ++ [d]) acc (wipeR ρ3 vs))) EX0) ∧
    ∀ acc ρ', I ds acc ρ' → Φ (.lst acc) (restR ρ1 ρ' vs)
def wLc (vs : List Nat) (it : WI) (tg : WG) (c : WT) (elt : WE) : WE := fun ρ Φ Ξ => it ρ (fun ds ρ1 => lcP vs tg c elt ds ρ1 Φ) Ξ
theorem lc_runX {wiT : TI} {Φ : T → Rho → Prop} (own : List (Str × Nat)) (ht : ∀ s H C cl fp, RfK (X.blk s H scope (compEnvC scope cl C X.env) fp) (own.map Prod.snd) tg wg) (hts : ∀ s H C cl fp, RfTs (X.blk s H scope (compEnvC scope cl C X.env) fp) ifs wc) (hev : ∀ s H C cl fp, RfE (X.blk s H scope (compEnvC scope cl C X.env) fp) elt we)
    (B F0 : Hp) (st : Rho) (vst σ : St) (H : Hp) (Q : VK)
    (hw : ∀ Rk : It → Hp → Prop, (∀ ds ρ1 J B1 F1 H1, lcP (own.map Prod.snd) wg wc we ds ρ1 Φ → Rl X.K B1 F1 (st ++ ρ1) (vst ++ σ) H1 → Turns X.K J B1 F1 ds.length (fun i => ds.getD i .non) → Back X.K B F0 B1 F1 → Rk J H1) → wiT σ H Rk)
    (hl : vst.length = st.length) (k : ∀ r ρ1 v H', Φ r ρ1 → Rl X.K B F0 (some r :: (st ++ ρ1)) (some v :: (vst ++ σ)) H' → Q v H') : tLc wiT (gBk X scope tg) (tBk X scope ifs) (eBk X scope elt) (own.map Prod.snd) σ H Q := by
  refine hw _ fun ds ρ1 J B1 F1 H1 hlc R1 Tn bk Dl hD => ?_
  obtain ⟨hz, I, h0, hs, hd⟩ := hlc
  obtain ⟨P, Pv, hp, R1s, unst⟩ := Rl.stash R1 hl (own.map Prod.snd)
  have hlp : (Pv ++ vst).length = (P ++ st).length := by simp [hp, hl]
  have R1w : Rl X.K B1 F1 ((P ++ st) ++ wipeR ρ1 (own.map Prod.snd)) ((Pv ++ vst) ++ wipe σ (own.map Prod.snd)) H1 := Rl.forgetN (st := P ++ st) (vst := Pv ++ vst) (by simpa [List.append_assoc] using R1s) hlp (own.map Prod.snd)
  have hls : (some (V.ref Dl) :: (Pv ++ vst)).length = (some (T.lst []) :: (P ++ st)).length := by simp [hp, hl]
  have Rst : Rl X.K B1 F1 (some (T.lst []) :: ((P ++ st) ++ wipeR ρ1 (own.map Prod.snd))) (some (V.ref Dl) :: ((Pv ++ vst) ++ wipe σ (own.map Prod.snd))) (upd H1 Dl (.lst [])) := R1w.newLst (ts := []) (vs := []) rfl hD
  refine ⟨fun i m H' => m = ds.length - i ∧ i ≤ ds.length ∧ ∃ acc ρ', I (ds.take i) acc ρ' ∧ acc.length ≤ i ∧ Clean ρ' (own.map Prod.snd) ∧ Rl X.K B1 F1 (some (T.lst acc) :: ((P ++ st) ++ ρ')) (some (V.ref Dl) :: ((Pv ++ vst) ++ wipe σ (own.map Prod.snd))) H', ⟨ds.length, by omega, Nat.zero_le _, [], _, by simpa using h0, Nat.le_refl _, wipeR_clean _ _, Rst⟩, ?_⟩
  rintro i m H' ⟨rfl, hle, acc, ρ', hI, hla, hcl, R'⟩
  have hls' : (some (V.ref Dl) :: (Pv ++ vst)).length = (some (T.lst acc) :: (P ++ st)).length := by simp [hp, hl]
  by_cases hlt : i < ds.length
  · obtain ⟨g1, g2⟩ := Tn.go B1 F1 i _ _ H' (Same.refl _) hlt R'
    have e1 : ds = ds.take i ++ ds[i] :: ds.drop (i + 1) := by rw [List.getElem_cons_drop, List.take_append_drop]
    have e2 : ds.getD i .non = ds[i] := by simp [List.getD_eq_getElem?_getD, hlt]
    have e3 : ds.take (i + 1) = ds.take i ++ [ds[i]] := List.take_succ_eq_append_getElem hlt
    refine .inr ⟨g1, fun H2 => ∃ acc ρ', I (ds.take (i + 1)) acc ρ' ∧ acc.length ≤ i + 1 ∧ Clean ρ' (own.map Prod.snd) ∧ Rl X.K B1 F1 (some (T.lst acc) :: ((P ++ st) ++ ρ')) (some (V.ref Dl) :: ((Pv ++ vst) ++ wipe σ (own.map Prod.snd))) H2, fun H2 h => ⟨ds.length - (i + 1), by omega, rfl, by omega, h⟩, fun w H2 hy => ?_⟩
    have hturn := hs _ _ _ acc ρ' e1 hI
    have Rw := g2 w H2 hy
    rw [e2] at Rw
    rw [e3]
    intro s' Hs C cl fp
    obtain ⟨ρ2, htg, hturn⟩ := ht s' Hs C cl fp _ _ _ hturn
    refine htg B1 F1 (some (T.lst acc) :: (P ++ st)) (some (V.ref Dl) :: (Pv ++ vst)) (wipe σ (own.map Prod.snd)) H2 w _ hls' Rw fun σ2 H3 R2 wq => ?_
    have wq' : wipe σ2 (own.map Prod.snd) = wipe σ (own.map Prod.snd) := by
      rw [wq]
      have : ∀ (vs us : List Nat), (∀ x ∈ us, x ∈ vs) → wipe (wipe σ us) vs = wipe σ vs := by
        intro vs us
        induction us with
        | nil => intro _; rfl
        | cons u us ih =>
          intro h
          show wipe ((wipe σ us).set u none) vs = _
          rw [wipe_comm (h u (by simp)), ih fun x hx => h x (by simp [hx])]
      exact this _ _ fun x hx => hx
    refine ⟨wq', ?_⟩
    intro s2 Hs2 C2 cl2 fp2
    refine hts s2 Hs2 C2 cl2 fp2 _ _ hturn B1 F1 (some (T.lst acc) :: (P ++ st)) (some (V.ref Dl) :: (Pv ++ vst)) σ2 H3 _ hls' R2 fun bo ρ3 H4 hbo R3 => ?_
    cases bo with
    | true =>
      refine iteT ?_
      intro s3 Hs3 C3 cl3 fp3
      refine hev s3 Hs3 C3 cl3 fp3 _ _ _ (hbo.1 rfl) B1 F1 (some (T.lst acc) :: (P ++ st)) (some (V.ref Dl) :: (Pv ++ vst)) σ2 H4 _ _ takes_none5 hls' R3 (fun r ρ4 y H5 hI' R4 => ?_) fun _ _ _ _ _ _ e _ _ => e.elim
      obtain ⟨xs, e1', e2', R5⟩ := Rl.push1 R4
      refine ⟨xs, e1', by rw [e2', sizeLine_eq]; omega, acc ++ [r], _, hI', by simp; omega, wipeR_clean _ _, ?_⟩
      have R6 := Rl.forgetN (st := some (T.lst (acc ++ [r])) :: (P ++ st)) (vst := some (V.ref Dl) :: (Pv ++ vst)) R5 (by simp [hp, hl]) (own.map Prod.snd)
      rw [wq'] at R6
      exact R6
    | false =>
      refine iteF ⟨acc, _, hbo.2 rfl, by omega, wipeR_clean _ _, ?_⟩
      have R6 := Rl.forgetN (st := some (T.lst acc) :: (P ++ st)) (vst := some (V.ref Dl) :: (Pv ++ vst)) R3 hls' (own.map Prod.snd)
      rw [wq'] at R6
      exact R6
  · have e : i = ds.length := by omega
    subst e
    rw [List.take_length] at hI
    have hΦ := hd acc ρ' hI
    refine .inl ⟨Tn.stop B1 F1 ds.length _ _ H' (Same.refl _) (Nat.le_refl _) R', k _ _ _ H' hΦ (bk.rl _ _ _ ?_)⟩
    have R7 := Rl.wipeOff (st := some (T.lst acc) :: (P ++ st)) (vst := some (V.ref Dl) :: (Pv ++ vst)) R' hls' hcl
    exact unst _ _ _ _ _ _ (by simpa [List.append_assoc] using R7)
/-- [elt for target in .. if ..] -/
theorem rf_lc (own : List (Str × Nat)) (hcm : X.calm = true) (hnd : X.N.Nodup) (hit : RfI X tg it wi) (ok : BlkOk X.N X.env.scope scope own) (ht : ∀ s H C cl fp, RfK (X.blk s H scope (compEnvC scope cl C X.env) fp) (own.map Prod.snd) tg wg) (hts : ∀ s H C cl fp, RfTs (X.blk s H scope (compEnvC scope cl C X.env) fp) ifs wc)
    (hev : ∀ s H C cl fp, RfE (X.blk s H scope (compEnvC scope cl C X.env) fp) elt we) (hfs : ∀ x, foldedSetIterable it X.env x = pure x := by intro _; rfl) : RfE X (.ListComp elt [⟨tg, it, ifs, 0⟩] scope pos) (wLc (own.map Prod.snd) wi wg wc we) := fun ρ Φ Ξ h => by
  obtain ⟨wiT, hpi, hw⟩ := hit _ _ _ h
  exact fun B F0 st vst σ H Q Wx tk hl R k kx => ⟨_, pe_lc (own := own) hcm hnd hpi ok (pg_bk X scope tg) (pts_bk X scope ifs) (pe_bk X scope elt) hfs, lc_runX own ht hts hev B F0 st vst σ H Q (fun Rk kk => hw B F0 st vst σ H Rk Wx tk hl R kk kx) hl k⟩
end
/-! ### the usual comprehensions -/
section
variable {vs : List Nat} {tg : WG} {c : WT} {elt : WE} {ρ1 : Rho} {Φ : T → Rho → Prop}
theorem lcP_fm {α : Type} (xs : List α) (im : α → D) (q : α → Bool) (f : α → D) (hz : xs.length ≤ 100000)
    (hs : ∀ a ∈ xs, ∀ (P1 : T → Rho → Prop) (P0 : Rho → Prop), (∀ ρ', wipeR ρ' vs = wipeR ρ1 vs → q a = true → P1 (.v (f a)) ρ') → (∀ ρ', wipeR ρ' vs = wipeR ρ1 vs → q a = false → P0 ρ') → tg (im a) (wipeR ρ1 vs) fun ρ2 => c ρ2 (fun b ρ3 => (b = true → elt ρ3 P1 EX0) ∧ (b = false → P0 ρ3)) EX0)
    (k : Φ (.lst (((xs.filter q).map f).map T.v)) (restR ρ1 (wipeR ρ1 vs) vs)) : lcP vs tg c elt (xs.map im) ρ1 Φ := by
  refine ⟨by simpa using hz, fun pre acc ρ' => ρ' = wipeR ρ1 vs ∧ ∃ n, pre = (xs.take n).map im ∧ n ≤ xs.length ∧ acc = (((xs.take n).filter q).map f).map T.v, ⟨rfl, 0, by simp⟩, ?_, ?_⟩
  · rintro pre d post acc ρ' e ⟨rfl, n, rfl, hn, rfl⟩
    have hlt : n < xs.length := by
      have := congrArg List.length e
      simp at this
      omega
    have ed : d = im xs[n] := by
      have := congrArg (fun l => l[n]?) e
      simp [List.getElem?_append, hlt] at this
      have h2 : min n xs.length = n := by omega
      rw [h2] at this
      simpa using this.symm
    subst ed
    have e3 : xs.take (n + 1) = xs.take n ++ [xs[n]] := List.take_succ_eq_append_getElem hlt
    refine hs xs[n] (List.getElem_mem hlt) (fun r ρ4 => _) (fun ρ3 => _) (fun ρ4 h7 hb => ⟨h7, n + 1, by rw [e3, List.map_append]; rfl, hlt, ?_⟩) (fun ρ3 h7 hb => ⟨h7, n + 1, by rw [e3, List.map_append]; rfl, hlt, ?_⟩)
    · rw [e3, List.filter_append, List.map_append, List.map_append]
      simp [hb]
    · rw [e3, List.filter_append, List.map_append, List.map_append]
      simp [hb]
  · rintro acc ρ' ⟨rfl, n, e, hn, rfl⟩
    have : n = xs.length := by
      have := congrArg List.length e
      simp at this
      omega
    subst this
    rw [List.take_length]
    exact k
theorem lcP_map {α : Type} (xs : List α) (im : α → D) (f : α → D) (hz : xs.length ≤ 100000)
    (hs : ∀ a ∈ xs, ∀ (P1 : T → Rho → Prop), (∀ ρ', wipeR ρ' vs = wipeR ρ1 vs → P1 (.v (f a)) ρ') → tg (im a) (wipeR ρ1 vs) fun ρ2 => elt ρ2 P1 EX0)
    (k : Φ (.lst ((xs.map f).map T.v)) (restR ρ1 (wipeR ρ1 vs) vs)) : lcP vs tg tYes elt (xs.map im) ρ1 Φ := by
  refine ⟨by simpa using hz, fun pre acc ρ' => ρ' = wipeR ρ1 vs ∧ ∃ n, pre = (xs.take n).map im ∧ n ≤ xs.length ∧ acc = ((xs.take n).map f).map T.v, ⟨rfl, 0, by simp⟩, ?_, ?_⟩
  · rintro pre d post acc ρ' e ⟨rfl, n, rfl, hn, rfl⟩
    have hlt : n < xs.length := by
      have := congrArg List.length e
      simp at this
      omega
    have ed : d = im xs[n] := by
      have := congrArg (fun l => l[n]?) e
      simp [List.getElem?_append, hlt] at this
      have h2 : min n xs.length = n := by omega
      rw [h2] at this
      simpa using this.symm
    subst ed
    have e3 : xs.take (n + 1) = xs.take n ++ [xs[n]] := List.take_succ_eq_append_getElem hlt
    have conv : ∀ {A B : Rho → Prop}, (∀ ρ, A ρ = B ρ) → ∀ {d ρ}, tg d ρ A → tg d ρ B := fun {A B} h {d ρ} h1 => by
      have : A = B := funext h
      rwa [← this]
    refine conv (fun ρ2 => ?_) (hs xs[n] (List.getElem_mem hlt) (fun r ρ4 => wipeR ρ4 vs = wipeR ρ1 vs ∧ ∃ m, (xs.take n).map im ++ [im xs[n]] = (xs.take m).map im ∧ m ≤ xs.length ∧ ((xs.take n).map f).map T.v ++ [r] = ((xs.take m).map f).map T.v) (fun ρ4 h7 => ⟨h7, n + 1, by rw [e3, List.map_append]; rfl, hlt, by rw [e3, List.map_append, List.map_append]; rfl⟩))
    unfold tYes
    simp
  · rintro acc ρ' ⟨rfl, n, e, hn, rfl⟩
    have : n = xs.length := by
      have := congrArg List.length e
      simp at this
      omega
    subst this
    rw [List.take_length]
    exact k
end
end Vl
end
section
set_option maxRecDepth 100000
/-! Wp8: statements, defs. -/
namespace Vl
open PySem L2
abbrev WS := Rho → Outs → Prop
def RfS (X : Cx) (sts : List Stmt) (w : WS) : Prop := ∀ ρ Z, w ρ Z → S X sts ρ Z
def RfS1 (X : Cx) (st : Stmt) (w : WS) : Prop := ∀ ρ Z, w ρ Z → S1 X st ρ Z
section
variable {X : Cx} {tg it e a b c elt : Expr} {es ifs : List Expr} {scope : Scope} {own : List (Str × Nat)} {ρ ρ1 : Rho} {wi : WI} {wg : WG} {wc : WT} {we wa wb : WE} {va : WA} {pos pos' p pa pn apos cpos : Pos} {vs : List Nat} {st : Stmt} {sts body orelse : List Stmt} {w w1 w2 : WS} {xa : Str}
def sNil : WS := fun ρ Z => Z.nx ρ
def sSeq (a b : WS) : WS := fun ρ Z => a ρ { Z with nx := fun ρ1 => b ρ1 Z }
def sRet (e : WE) : WS := fun ρ Z => e ρ (fun r ρ1 => Z.rt r ρ1) Z.ex
def sExpr (e : WE) : WS := fun ρ Z => e ρ (fun _ ρ1 => Z.nx ρ1) Z.ex
def sIf (c : WT) (a b : WS) : WS := fun ρ Z => c ρ (fun t ρ1 => (t = true → a ρ1 Z) ∧ (t = false → b ρ1 Z)) Z.ex
def sSet (i : Nat) (e : WE) : WS := fun ρ Z => e ρ (fun r ρ1 => Z.nx (ρ1.set i (some r))) Z.ex
/-- let go -/
def wFrz (e : WE) : WE := fun ρ Φ Ξ => e ρ (fun r ρ1 => Φ (.v r.d) ρ1) Ξ
theorem rf_frz (h : RfE X e we) : RfE X e (wFrz we) := fun ρ Φ Ξ hh B F0 st vst σ H Q Wx tk hl R k kx => h _ _ _ hh B F0 st vst σ H Q Wx tk hl R (fun r ρ1 v H1 h1 R1 => k _ ρ1 v H1 h1 (Rl.frz1 R1)) kx
theorem rs_nil : RfS X [] sNil := fun ρ Z h => s_nil h
theorem rs_cons (h1 : RfS1 X st w1) (h2 : RfS X sts w2) : RfS X (st :: sts) (sSeq w1 w2) := fun ρ Z h => s_cons fun B F0 σ H De Wx tk R m => h1 _ _ h B F0 σ H De Wx tk R ⟨fun ρ1 σ1 H1 hn R1 => m.nx ρ1 σ1 H1 (h2 _ _ hn) R1, m.rt, m.bk, m.ct, m.ex⟩
theorem rs_ret (he : RfE X e we) : RfS1 X (.Return (some e) pos) (sRet we) := fun ρ Z h => s1_of (ps_ret (pe_u X e)) fun B F0 σ H De Wx tk R m => he _ _ _ h B F0 [] [] σ H _ Wx tk rfl R (fun r ρ1 v H1 h1 R1 => m.rt r ρ1 v σ H1 h1 R1) (fun x ρ1 cls d F H' hx RF xd => m.ex x ρ1 cls d F σ H' hx RF xd)
theorem rs_expr (he : RfE X e we) (hs : swapsWith e none pos.line X.env = pure false := by rfl) : RfS1 X (.Expr e pos) (sExpr we) := fun ρ Z h => s1_of (ps_expr (pe_u X e) hs) fun B F0 σ H De Wx tk R m => he _ _ _ h B F0 [] [] σ H _ Wx tk rfl R (fun r ρ1 v H1 h1 R1 => m.nx ρ1 σ H1 h1 R1.drop) (fun x ρ1 cls d F H' hx RF xd => m.ex x ρ1 cls d F σ H' hx RF xd)
theorem rs_if (hc : RfT X c wc) (h1 : RfS X sts w1) (h2 : RfS X body w2) : RfS1 X (.If c sts body pos) (sIf wc w1 w2) := fun ρ Z h => s1_of (ps_if (pt_u X c) (pss_u X sts) (pss_u X body)) fun B F0 σ H De Wx tk R m => hc _ _ _ h B F0 [] [] σ H _ Wx tk rfl R (fun t ρ1 H1 ht R1 => by
  cases t with
  | true => exact iteT (h1 _ _ (ht.1 rfl) B F0 σ H1 De Wx tk R1 m)
  | false => exact iteF (h2 _ _ (ht.2 rfl) B F0 σ H1 De Wx tk R1 m)) (fun x ρ1 cls d F H' hx RF xd => m.ex x ρ1 cls d F σ H' hx RF xd)
theorem rs_set {x : Str} (i : Nat) (g : Gd X) (he : RfE X e we) (hi : X.N[i]? = some x := by rfl) (hx : Loc X.env.scope x := by first | exact Or.inl rfl | exact Or.inr rfl) (hs : swapsWith e (some (.Name x pos')) pos.line X.env = pure false := by rfl)
    (hf : X.fn x = true ∨ X.env.scope.names.lookup x = some .local := by first | exact .inl rfl | exact .inr rfl) : RfS1 X (.Assign [.Name x pos'] e pos) (sSet i we) := fun ρ Z h => s1_of (ps_set g.nd hi hx (pe_u X e) hs hf) fun B F0 σ H De Wx tk R m => he _ _ _ h B F0 [] [] σ H _ Wx tk rfl R (fun r ρ1 v H1 h1 R1 => m.nx _ _ H1 h1 (Rl.setS R1)) (fun x ρ1 cls d F H' hx RF xd => m.ex x ρ1 cls d F σ H' hx RF xd)
/-- name = [..]: a local name, on one line -/
theorem rs_setLc {y : Str} {py spos : Pos} (j : Nat) (own : List (Str × Nat)) (hcm : X.calm = true) (hnd : X.N.Nodup) (hit : RfI X tg it wi) (ok : BlkOk X.N X.env.scope scope own) (ht : ∀ s H C cl fp, RfK (X.blk s H scope (compEnvC scope cl C X.env) fp) (own.map Prod.snd) tg wg) (hts : ∀ s H C cl fp, RfTs (X.blk s H scope (compEnvC scope cl C X.env) fp) ifs wc)
    (hev : ∀ s H C cl fp, RfE (X.blk s H scope (compEnvC scope cl C X.env) fp) elt we) (hN : X.N[j]? = some y := by rfl) (hyl : X.env.scope.names.lookup y = some .local := by rfl)
    (hsw : swapsWith (.ListComp elt [⟨tg, it, ifs, 0⟩] scope pos) (some (.Name y py)) spos.line X.env = pure true := by rfl) (hfs : ∀ x, foldedSetIterable it X.env x = pure x := by intro _; rfl) : RfS1 X (.Assign [.Name y py] (.ListComp elt [⟨tg, it, ifs, 0⟩] scope pos) spos) (sSet j (wLc (own.map Prod.snd) wi wg wc we)) := fun ρ Z h => by
  obtain ⟨wiT, hpi, hw⟩ := hit _ _ _ h
  exact s1_of (ps_setLc (own := own) hcm hnd hN hyl hsw hpi ok (pg_bk X scope tg) (pts_bk X scope ifs) (pe_bk X scope elt) hfs) fun B F0 σ H De Wx tk R m => lc_runX own ht hts hev B F0 [] [] σ H _ (fun Rk kk => hw B F0 [] [] σ H Rk Wx tk rfl R kk fun x ρ1 cls d F H' hx RF xd => m.ex x ρ1 cls d F σ H' hx RF xd) rfl fun r ρ1 v H1 h1 R1 => m.nx _ _ H1 h1 (Rl.setS R1)
/-- the same, let go -/
theorem rs_setLcF {y : Str} {py spos : Pos} (j : Nat) (own : List (Str × Nat)) (hcm : X.calm = true) (hnd : X.N.Nodup) (hit : RfI X tg it wi) (ok : BlkOk X.N X.env.scope scope own) (ht : ∀ s H C cl fp, RfK (X.blk s H scope (compEnvC scope cl C X.env) fp) (own.map Prod.snd) tg wg) (hts : ∀ s H C cl fp, RfTs (X.blk s H scope (compEnvC scope cl C X.env) fp) ifs wc)
    (hev : ∀ s H C cl fp, RfE (X.blk s H scope (compEnvC scope cl C X.env) fp) elt we) (hN : X.N[j]? = some y := by rfl) (hyl : X.env.scope.names.lookup y = some .local := by rfl)
    (hsw : swapsWith (.ListComp elt [⟨tg, it, ifs, 0⟩] scope pos) (some (.Name y py)) spos.line X.env = pure true := by rfl) (hfs : ∀ x, foldedSetIterable it X.env x = pure x := by intro _; rfl) : RfS1 X (.Assign [.Name y py] (.ListComp elt [⟨tg, it, ifs, 0⟩] scope pos) spos) (sSet j (wFrz (wLc (own.map Prod.snd) wi wg wc we))) := fun ρ Z h => by
  obtain ⟨wiT, hpi, hw⟩ := hit _ _ _ h
  exact s1_of (ps_setLc (own := own) hcm hnd hN hyl hsw hpi ok (pg_bk X scope tg) (pts_bk X scope ifs) (pe_bk X scope elt) hfs) fun B F0 σ H De Wx tk R m => lc_runX own ht hts hev B F0 [] [] σ H _ (fun Rk kk => hw B F0 [] [] σ H Rk Wx tk rfl R kk fun x ρ1 cls d F H' hx RF xd => m.ex x ρ1 cls d F σ H' hx RF xd) rfl fun r ρ1 v H1 h1 R1 => m.nx _ _ H1 h1 (Rl.setS (Rl.frz1 R1))
/-! ### loops -/
def forP (tg : WG) (body : WS) (ds : List D) (ρ1 : Rho) (Z : Outs) : Prop := ∃ I : List D → Rho → Prop, I [] ρ1 ∧ (∀ pre d post ρ', ds = pre ++ d :: post → I pre ρ' → tg d ρ' fun ρ2 => body ρ2 { Z with nx := I (pre ++ [d]), ct := I (pre ++ [d]), bk := Z.nx }) ∧ ∀ ρ', I ds ρ' → Z.nx ρ'
def sFor (it : WI) (tg : WG) (body : WS) : WS := fun ρ Z => it ρ (fun ds ρ1 => forP tg body ds ρ1 Z) Z.ex
theorem rs_for (g : Gd X) (hit : RfI X tg it wi) (ht : RfG X tg wg) (hb : RfS X body w) (hfs : ∀ x, foldedSetIterable it X.env x = pure x := by intro _; rfl) : RfS1 X (.For tg it body [] pos) (sFor wi wg w) := fun ρ Z h => by
  obtain ⟨wiT, hpi, hw⟩ := hit _ _ _ h
  refine s1_of (ps_for g.own g.calm hpi (pg_u X tg) (pss_u X body) hfs) fun B F0 σ H De Wx tk R m => hw B F0 [] [] σ H _ Wx tk rfl R (fun ds ρ1 J B1 F1 H1 hf R1 Tn bk => ?_) (fun x ρ1 cls d F H' hx RF xd => m.ex x ρ1 cls d F σ H' hx RF xd)
  obtain ⟨I, h0, hs, hd⟩ := hf
  refine ⟨fun i k σ' H' => k = ds.length - i ∧ i ≤ ds.length ∧ ∃ ρ', I (ds.take i) ρ' ∧ Rl X.K B1 F1 ρ' σ' H', ⟨_, rfl, Nat.zero_le _, ρ1, h0, R1⟩, ?_⟩
  rintro i k σ' H' ⟨rfl, hle, ρ', hI, R'⟩
  by_cases hlt : i < ds.length
  · obtain ⟨g1, g2⟩ := Tn.go B1 F1 i ρ' σ' H' (Same.refl _) hlt R'
    have e1 : ds = ds.take i ++ ds[i] :: ds.drop (i + 1) := by rw [List.getElem_cons_drop, List.take_append_drop]
    have e2 : ds.getD i .non = ds[i] := by simp [List.getD_eq_getElem?_getD, hlt]
    have e3 : ds.take (i + 1) = ds.take i ++ [ds[i]] := List.take_succ_eq_append_getElem hlt
    refine .inr ⟨g1, fun σ2 H2 => ∃ ρ2, I (ds.take (i + 1)) ρ2 ∧ Rl X.K B1 F1 ρ2 σ2 H2, fun σ2 H2 h => ⟨ds.length - (i + 1), by omega, rfl, by omega, h⟩, fun w H2 hy => ?_⟩
    obtain ⟨ρ2, htg, hbd⟩ := ht _ _ _ (hs _ _ _ ρ' e1 hI)
    have Rw := g2 w H2 hy
    rw [e2] at Rw
    rw [e3]
    exact htg B1 F1 σ' H2 w _ Rw fun σ2 H3 R2 => hb _ _ hbd B1 F1 σ2 H3 _ Wx tk R2 ⟨fun ρ σ H h R => ⟨ρ, h, R⟩, fun r ρ v σ H h R => m.rt r ρ v σ H h (bk.rl _ _ _ R), fun ρ σ H h R => m.nx ρ σ H h (bk.rl _ _ _ R), fun ρ σ H h R => ⟨ρ, h, R⟩, fun x ρ cls d F' σ H h R hx => by
      obtain ⟨F2, R2, hx2⟩ := bk.ex F' _ _ _ x cls d R hx
      exact m.ex x ρ cls d F2 σ H h R2 hx2⟩
  · have e : i = ds.length := by omega
    subst e
    rw [List.take_length] at hI
    exact .inl ⟨Tn.stop B1 F1 _ ρ' σ' H' (Same.refl _) (Nat.le_refl _) R', m.nx ρ' σ' H' (hd ρ' hI) (bk.rl _ _ _ R')⟩
/-- the loop over things of another kind -/
theorem forP_map {α : Type} {tg : WG} {body : WS} {ρ1 : Rho} {Z : Outs} (xs : List α) (im : α → D) (I : List α → Rho → Prop) (h0 : I [] ρ1) (hs : ∀ pre a post ρ', xs = pre ++ a :: post → I pre ρ' → tg (im a) ρ' fun ρ2 => body ρ2 { Z with nx := I (pre ++ [a]), ct := I (pre ++ [a]), bk := Z.nx }) (hd : ∀ ρ', I xs ρ' → Z.nx ρ') : forP tg body (xs.map im) ρ1 Z := by
  refine ⟨fun pre ρ' => I (xs.take pre.length) ρ', h0, ?_, fun ρ' h => hd ρ' (by simpa using h)⟩
  intro pre d post ρ' e h
  have hlt : pre.length < xs.length := by
    have := congrArg List.length e
    simp at this
    omega
  have ed : d = im xs[pre.length] := by
    have := congrArg (fun l => l[pre.length]?) e
    simpa [hlt] using this.symm
  subst ed
  have e1 : xs = xs.take pre.length ++ xs[pre.length] :: xs.drop (pre.length + 1) := by rw [List.getElem_cons_drop, List.take_append_drop]
  have e3 : xs.take (pre.length + 1) = xs.take pre.length ++ [xs[pre.length]] := List.take_succ_eq_append_getElem hlt
  have := hs _ _ _ ρ' e1 h
  simp only [List.length_append, List.length_cons, List.length_nil, Nat.zero_add, e3]
  exact this
def sWhile (c : WT) (body : WS) : WS := fun ρ Z => ∃ (W : Nat → Rho → Prop) (m0 : Nat), W m0 ρ ∧ ∀ m ρ', W m ρ' → c ρ' (fun t ρ2 => (t = true → body ρ2 { Z with nx := fun ρ3 => ∃ m', m' < m ∧ W m' ρ3, ct := fun ρ3 => ∃ m', m' < m ∧ W m' ρ3, bk := Z.nx }) ∧ (t = false → Z.nx ρ2)) Z.ex
theorem rs_while (g : Gd X) (hc : RfT X c wc) (hb : RfS X body w) : RfS1 X (.While c body [] pos) (sWhile wc w) := fun ρ Z h => by
  obtain ⟨W, m0, h0, hs⟩ := h
  refine s1_of (ps_while g.own (pt_u X c) (pss_u X body)) fun B F0 σ H De Wx tk R mm => ?_
  refine ⟨fun m σ' H' => ∃ ρ', W m ρ' ∧ Rl X.K B F0 ρ' σ' H', ⟨m0, ρ, h0, R⟩, ?_⟩
  rintro m σ' H' ⟨ρ', hW, R'⟩
  refine hc _ _ _ (hs m ρ' hW) B F0 [] [] σ' H' _ Wx tk rfl R' (fun t ρ2 H1 ht R1 => ?_) (fun x ρ1 cls d F H' hx RF xd => mm.ex x ρ1 cls d F _ H' hx RF xd)
  cases t with
  | true =>
    refine iteT ⟨fun σ2 H2 => ∃ ρ3, (∃ m', m' < m ∧ W m' ρ3) ∧ Rl X.K B F0 ρ3 σ2 H2, ?_, hb _ _ (ht.1 rfl) B F0 σ' H1 _ Wx tk R1 ⟨fun ρ σ H h R => ⟨ρ, h, R⟩, mm.rt, mm.nx, fun ρ σ H h R => ⟨ρ, h, R⟩, mm.ex⟩⟩
    rintro σ2 H2 ⟨ρ3, ⟨m', hlt, hW'⟩, R3⟩
    exact ⟨m', hlt, ρ3, hW', R3⟩
  | false => exact iteF (mm.nx ρ2 σ' H1 (ht.2 rfl) R1)
/-! ### stores -/
def ipW : Operator → D → D → (D → Prop) → Prop
  | .Add, .int i, .int j, k => k (.int (i + j))
  | .Sub, .int i, .int j, k => k (.int (i - j))
  | _, _, _, _ => False
def sAug (i : Nat) (op : Operator) (e : WE) : WS := fun ρ Z => ∃ x, slot ρ i = some (.v x) ∧ e ρ (fun r ρ1 => ipW op x r.d fun z => Z.nx (ρ1.set i (some (.v z)))) Z.ex
theorem pip_u {op : Operator} : PIp X op (fun x y H Q => ∃ t, PIp X op t ∧ t x y H Q) := fun pins s σ H x y v u Q I rx ry h => let ⟨_, p, q⟩ := h; p pins s σ H x y v u Q I rx ry q
theorem rs_aug {x : Str} {op : Operator} (i : Nat) (g : Gd X) (he : RfE X e we) (hi : X.N[i]? = some x := by rfl)
    (hx : Loc X.env.scope x := by first | exact Or.inl rfl | exact Or.inr rfl) (hf : X.fn x = true ∨ X.env.scope.names.lookup x = some .local := by first | exact .inl rfl | exact .inr rfl) : RfS1 X (.AugAssign (.Name x pos') op e pos) (sAug i op we) := fun ρ Z h => by
  obtain ⟨d, hd, h⟩ := h
  refine s1_of (L2.ps_aug g.nd hi hx (pe_u X e) pip_u hf) fun B F0 σ H De Wx tk R mm => ?_
  obtain ⟨v, e1, R1⟩ := Rl.get (st := []) (vst := []) R rfl (slot_get hd)
  refine ⟨v, e1, he _ _ _ h B F0 [some (.v d)] [some v] σ H _ Wx tk rfl R1 (fun r ρ1 u H1 h1 R2 => ?_) (fun x ρ1 cls d F H' hx RF xd => mm.ex x ρ1 cls d F σ H' hx (RlF.drop RF) xd)⟩
  have R3 := Rl.frz1 R2
  have d1 := R3.den
  have d2 := R3.drop.den
  generalize r.d = rd at h1 R3 d1
  unfold ipW at h1
  split at h1
  · obtain ⟨rfl, rfl⟩ := den_ii d2 d1
    exact ⟨_, ip_add, _, _, rfl, rfl, mm.nx _ _ H1 h1 (Rl.setS (R3.drop.drop.pushS fun _ => .int _))⟩
  · obtain ⟨rfl, rfl⟩ := den_ii d2 d1
    exact ⟨_, ip_sub, _, _, rfl, rfl, mm.nx _ _ H1 h1 (Rl.setS (R3.drop.drop.pushS fun _ => .int _))⟩
  · exact h1.elim
/-- the owned list of a slot, and the slots behind a change of it -/
def onL (ρ : Rho) (i : Nat) (k : List T → (T → Rho) → Prop) : Prop := match slot ρ i with
  | some (.lst ts) => k ts fun u => ρ.set i (some u)
  | some (.at_ a (.lst ts)) => k ts fun u => ρ.set i (some (.at_ a u))
  | _ => False
theorem onL_ok {i : Nat} {k : List T → (T → Rho) → Prop} (h : onL ρ i k) : ∃ t1 ts, ρ[i]? = some (some t1) ∧ (t1 = .lst ts ∨ ∃ a, t1 = .at_ a (.lst ts)) ∧ k ts fun u => ρ.set i (some (reT t1 u)) := by
  unfold onL at h
  split at h
  · exact ⟨_, _, slot_get (by assumption), .inl rfl, h⟩
  · exact ⟨_, _, slot_get (by assumption), .inr ⟨_, rfl⟩, h⟩
  · exact h.elim
/-- xs.append(e) -/
def sApp (i : Nat) (e : WE) : WS := fun ρ Z => (∃ f, onL ρ i f) ∧ e ρ (fun r ρ1 => onL ρ1 i fun ts re => ts.length < 100000 ∧ Z.nx (re (.lst (ts ++ [r])))) Z.ex
theorem rs_append {pa : Pos} (i : Nat) (he : RfE X e we) (hN : X.N[i]? = some xa := by rfl) (hv : Vis X.env.scope xa := by first | exact Or.inl rfl | exact Or.inr (Or.inl rfl) | exact Or.inr (Or.inr rfl))
    (hd1 : (xa == ("__debug__" : Str)) = false := by decide) (hcd : (xa == ("__classdict__" : Str)) = false := by decide)
    (hbase : attributeBase (.Name xa pa) "append" X.env (eval (.Name xa pa) X.env) = eval (.Name xa pa) X.env := by rfl)
    (hfew : ((backTo cpos (starEach [e] X.env)).all (fun x => !x.1) && (backToKw cpos (keywordEach [] X.env)).all (fun x => x.1.isSome) && decide (([e] : List Expr).length + ([] : List Keyword).length + (if ([] : List Keyword).isEmpty then 0 else 1) < 30)) = true := by rfl)
    (hs : starEach [e] X.env = (false, eval e X.env) :: starEach [] X.env := by rfl) (hsw : swapsWith (.Call (.Attribute (.Name xa pa) "append" apos) [e] [] cpos) none pos.line X.env = pure false := by rfl) (hline : (apos.endLine == cpos.line) = true := by rfl) :
    RfS1 X (.Expr (.Call (.Attribute (.Name xa pa) "append" apos) [e] [] cpos) pos) (sApp i we) := fun ρ Z h => by
  obtain ⟨⟨f, hf⟩, h⟩ := h
  obtain ⟨t0, ts0, hi0, ht0, _⟩ := onL_ok hf
  refine s1_of (ps_expr (pe_bm PySem.F.plainAttrs_list PySem.F.slot_list_append PySem.F.type_list_append mt_append (pe_var hN hv hd1 hcd) (pa_cons (pe_u X e) pa_nil hs) hbase hfew hline hs (by rfl)) hsw) fun B F0 σ H De Wx tk R m => ?_
  obtain ⟨v, F, A, e1, ow, eF, _⟩ := Rl.slot (st := []) (vst := []) R rfl hi0
  obtain ⟨a0, xs0, rfl, ex0, _⟩ := own_lst ow ht0
  refine ⟨_, e1, tyV_of ex0, he _ _ _ h B F0 [] [] σ H _ Wx tk rfl R (fun r ρ1 u H1 h1 R1 => ?_) (fun x ρ1 cls d F H' hx RF xd => m.ex x ρ1 cls d F σ H' hx RF xd)⟩
  obtain ⟨t1, ts, hi, ht, hz, hn⟩ := onL_ok h1
  have R1' : Rl X.K B F0 ([r].map some ++ ρ1) ([u].map some ++ σ) H1 := R1
  obtain ⟨a, xs, e2, e3, e4, _, k⟩ := R1'.write (i := i) rfl hi ht
  rw [e1] at e2
  cases e2
  refine ⟨_, xs, u, rfl, rfl, e3, by rw [e4, sizeLine_eq]; omega, m.nx _ σ _ hn ?_⟩
  exact k (xs ++ [u]) (ts ++ [r]) fun F H' A B o1 o2 => ⟨A ++ B, o1.append o2, Less.refl _⟩
/-- xs[b] = e -/
def sPut (i : Nat) (b e : WE) : WS := fun ρ Z => (∃ f, onL ρ i f) ∧ e ρ (fun r ρ1 => b ρ1 (fun s ρ2 => ∃ n, s = .v (.int n) ∧ onL ρ2 i fun ts re => ∃ j, ixN ts.length n = some j ∧ Z.nx (re (.lst (ts.set j r)))) Z.ex) Z.ex
theorem rs_put {pa pn : Pos} (i : Nat) (he : RfE X e we) (hb : RfE X b wb) (hN : X.N[i]? = some xa := by rfl) (hv : Vis X.env.scope xa := by first | exact Or.inl rfl | exact Or.inr (Or.inl rfl) | exact Or.inr (Or.inr rfl)) (hd1 : (xa == ("__debug__" : Str)) = false := by decide) (hcd : (xa == ("__classdict__" : Str)) = false := by decide)
    (hs : swapsWithSole [.Subscript (.Name xa pa) b pn] e pos.line X.env = pure false := by rfl) (hw : swappedStores [.Subscript (.Name xa pa) b pn] e X.env = pure none := by rfl) (h1 : (assignEach [.Subscript (.Name xa pa) b pn] X.env).map (·.2) = [assign (.Subscript (.Name xa pa) b pn) X.env] := by rfl)
    (ha : ∀ v, assign (.Subscript (.Name xa pa) b pn) X.env v = (do
      let ov ← holding [v] (eval (.Name xa pa) X.env)
      let iv ← holding [v, ov] (eval b X.env)
      standAt pn
      holding [v, ov, iv] (setItem ov iv v)
      release [v, ov, iv] []) := by intro _; rfl) : RfS1 X (.Assign [.Subscript (.Name xa pa) b pn] e pos) (sPut i wb we) := fun ρ Z h => by
  obtain ⟨⟨f, hf⟩, h⟩ := h
  obtain ⟨t0, ts0, hi0, ht0, _⟩ := onL_ok hf
  refine s1_of (ps_asg (pe_u X e) (pg_sub (pe_var hN hv hd1 hcd) (pe_u X b) set_list ha) hs hw h1) fun B F0 σ H De Wx tk R m => ?_
  obtain ⟨w, _, _, e1, _⟩ := Rl.slot (st := []) (vst := []) R rfl hi0
  refine he _ _ _ h B F0 [] [] σ H _ Wx tk rfl R (fun r ρ1 v H1 g1 R1 => ⟨w, e1, hb _ _ _ g1 B F0 [some r] [some v] σ H1 _ Wx tk rfl R1 (fun s ρ2 q H2 g2 R2 => ?_) (fun x ρ1 cls d F H' hx RF xd => m.ex x ρ1 cls d F σ H' hx (RlF.drop RF) xd)⟩) (fun x ρ1 cls d F H' hx RF xd => m.ex x ρ1 cls d F σ H' hx RF xd)
  obtain ⟨n, rfl, g2⟩ := g2
  obtain ⟨t1, ts, hi, ht, j, hn, hnx⟩ := onL_ok g2
  have R3 : Rl X.K B F0 ([r].map some ++ ρ2) ([v].map some ++ σ) H2 := R2.drop
  obtain ⟨a, xs, g1, g2, g3, _, kk⟩ := R3.write (i := i) rfl hi ht
  rw [e1] at g1
  cases g1
  refine ⟨a, xs, n, j, rfl, R2.headI, g2, by rw [g3]; exact hn, m.nx _ σ _ hnx ?_⟩
  refine kk (xs.set j v) (ts.set j r) fun F H' A C o1 o2 => ?_
  cases o2 with
  | cons o3 o4 =>
    cases o4
    obtain ⟨A', o5, l⟩ := o1.set o3 j
    exact ⟨A', o5, by simpa using l⟩
/-- d[b] = e, an owned dict -/
def onD (ρ : Rho) (i : Nat) (k : List (Key × T) → (T → Rho) → Prop) : Prop := match slot ρ i with
  | some (.dic ts) => k ts fun u => ρ.set i (some u)
  | some (.at_ a (.dic ts)) => k ts fun u => ρ.set i (some (.at_ a u))
  | _ => False
theorem onD_ok {i : Nat} {k : List (Key × T) → (T → Rho) → Prop} (h : onD ρ i k) : ∃ t1 ts, ρ[i]? = some (some t1) ∧ (t1 = .dic ts ∨ ∃ a, t1 = .at_ a (.dic ts)) ∧ k ts fun u => ρ.set i (some (reT t1 u)) := by
  unfold onD at h
  split at h
  · exact ⟨_, _, slot_get (by assumption), .inl rfl, h⟩
  · exact ⟨_, _, slot_get (by assumption), .inr ⟨_, rfl⟩, h⟩
  · exact h.elim
end
/-! ### defs -/
abbrev Sp := List D → (T → Prop) → (Xn → Prop) → Prop
def prOf (S : Sp) : Pr := fun ts Q Qx => ∃ ds, ts = ds.map T.v ∧ S ds (fun r => Q r ts) Qx
theorem prOf_iff {S : Sp} {ds : List D} {Q : T → List T → Prop} {Qx : Xn → Prop} : prOf S (ds.map T.v) Q Qx ↔ S ds (fun r => Q r (ds.map T.v)) Qx := by
  constructor
  · rintro ⟨es, e, h⟩
    obtain rfl := v_inj e
    exact h
  · exact fun h => ⟨ds, rfl, h⟩
def wCallS (S : Sp) (as : WA) : WE := fun ρ Φ Ξ => as ρ (fun ds ρ1 => S ds (fun r => Φ r ρ1) fun x => Ξ x ρ1) Ξ
section
variable {P : Program} {w : World} {K : PySem.W.Frag} {mg : Str → Option Value} {base : Heap}
theorem rf_callS {X : Cx} {e : Expr} {es : List Expr} {va : WA} {p pos : Pos} {k : Nat} {f : Str} {S : Sp} (Fd : Fn X.prog X.w X.K X.mg X.base k f (prOf S)) (hr : Room k X.A) (ha : RfA X (e :: es) va) (hg : Gl X f := by rfl) (hdb : (f == ("__debug__" : Str)) = false := by decide)
    (he : starEach (e :: es) X.env = (false, eval e X.env) :: starEach es X.env := by rfl) (hpl : (backTo pos (starEach es X.env)).any (·.1) = false := by rfl) : RfE X (.Call (.Name f p) (e :: es) [] pos) (wCallS S va) := fun ρ Φ Ξ h =>
  rf_call Fd hr ha hg hdb he hpl ρ Φ Ξ ((show wCall (prOf S) va ρ Φ Ξ = wCallS S va ρ Φ Ξ by
    unfold wCall wCallS
    congr 1
    funext ds ρ1
    exact propext prOf_iff).mpr h)
theorem fn_w {x qual : Str} {st : Stmt} {f : Addr} {fd : FuncData} {N ps : List Str} {k : Nat} {S : Sp} {body : WS} (F : Fun K x qual st f fd) (S' : FnScope N ps (defScope st)) (hm : mg x = some (.ref f)) (hb : Binds K fd ps []) (hN : ps.length ≤ N.length) (hS : ∀ ds Q Qx, S ds Q Qx → ds.length = ps.length)
    (hrf : ∀ (cdv : Value) (A : Around) (outer : List Env) (s : Shared) (H : Hp) (E : XK), Room k (cxD P w K mg base N qual st f cdv A outer s H E).A → RfS (cxD P w K mg base N qual st f cdv A outer s H E) (defBody st) body)
    (hsp : ∀ ds Q Qx, S ds Q Qx → body ((ds.map fun d => some (T.v d)) ++ List.replicate (N.length - ds.length) none) { nx := fun _ => Q (.v .non), rt := fun r _ => Q r, ex := fun x _ => Qx x }) : Fn P w K mg base (k + 1) x (prOf S) := by
  refine fn_v F S' hm hb ?_ hN ?_
  · rintro ts Qt Qx ⟨ds, rfl, h⟩
    exact ⟨ds, rfl, hS _ _ _ h⟩
  · intro cdv A outer s H E ds Qt Qx hr h
    exact hrf cdv A outer s H E hr _ _ (hsp _ _ _ (prOf_iff.mp h))
/-- a def that changes its first argument: what it holds, the others; the answer, what it holds then -/
abbrev SpM := T → List D → (T → T → Prop) → Prop
def prM (S : SpM) : Pr := fun ts Q _ => ∃ q u ds, ts = .at_ q u :: ds.map T.v ∧ S u ds fun r u' => Q r (.at_ q u' :: ds.map T.v)
def wCallMS (S : SpM) (i : Nat) (as : WA) : WE := fun ρ Φ Ξ => (∃ f, onL ρ i f) ∧ as ρ (fun ds ρ1 => onL ρ1 i fun us re => S (.lst us) ds fun r u' => Φ r (re u')) Ξ
theorem rf_callMS {X : Cx} {es : List Expr} {va : WA} {p pos : Pos} {k : Nat} {f xa : Str} {S : SpM} {pa : Pos} (i : Nat) (Fd : Fn X.prog X.w X.K X.mg X.base k f (prM S)) (hr : Room k X.A) (ha : RfA X es va) (hN : X.N[i]? = some xa := by rfl) (hv : Vis X.env.scope xa := by first | exact Or.inl rfl | exact Or.inr (Or.inl rfl) | exact Or.inr (Or.inr rfl)) (hg : Gl X f := by rfl)
    (hd1 : (xa == ("__debug__" : Str)) = false := by decide) (hcd : (xa == ("__classdict__" : Str)) = false := by decide) (hdb : (f == ("__debug__" : Str)) = false := by decide)
    (he : starEach (.Name xa pa :: es) X.env = (false, eval (.Name xa pa) X.env) :: starEach es X.env := by rfl) (hpl : (backTo pos (starEach es X.env)).any (·.1) = false := by rfl) :
    RfE X (.Call (.Name f p) (.Name xa pa :: es) [] pos) (wCallMS S i va) := by
  obtain ⟨fa, fd, ps, F, hm, hk, hb⟩ := Fd
  refine fun ρ Φ Ξ h B F0 st vst σ H Q Wx tk hl R0 kk kx => ⟨_, pe_callS F hr hg hm hk hb passE0 (pa_cons (pe_var hN hv hd1 hcd) (pa_u X es) he) hdb he hpl, ?_⟩
  obtain ⟨⟨f', hf'⟩, h⟩ := h
  obtain ⟨t0, ts0, ht0, _, _⟩ := onL_ok hf'
  obtain ⟨v0, _, _, hv0, _⟩ := R0.slot hl ht0
  refine ⟨v0, hv0, ha _ _ _ h B F0 st vst σ H _ Wx tk hl R0 (fun ds ρ1 vs H1 h1 hl1 R1 => ?_) kx⟩
  obtain ⟨t1, us, hi, ht, hS⟩ := onL_ok h1
  obtain ⟨B', F', a, hv1, _, Rc, back⟩ := R1.calleeM hl1 hl hi ht
  rw [hv0] at hv1
  cases hv1
  have eq : ∀ (r' u' : T), (∃ u'', (T.at_ a u' :: ds.map T.v) = T.at_ a u'' :: ds.map T.v ∧ Φ r' (ρ1.set i (some (reT t1 u'')))) = Φ r' (ρ1.set i (some (reT t1 u'))) := fun r' u' => propext ⟨fun ⟨u'', e, h⟩ => by
    rw [List.cons.injEq, T.at_.injEq] at e
    rw [e.1.2]; exact h, fun h => ⟨u', rfl, h⟩⟩
  refine ⟨B', F', .at_ a (.lst us) :: ds.map T.v, fun r' ts' => ∃ u'', ts' = .at_ a u'' :: ds.map T.v ∧ Φ r' (ρ1.set i (some (reT t1 u''))), fun _ => False, by simpa using hl1, by simpa [List.map_map, Function.comp_def] using Rc, ⟨a, _, ds, rfl, ?_⟩, fun r' ts' v H' e h => ?_, fun _ _ _ _ _ h _ _ => h.elim⟩
  · simp only [eq]
    exact hS
  · obtain ⟨u', rfl, hp⟩ := e
    exact kk r' _ v H' hp (back _ _ _ _ _ _ h)
theorem fn_wM {x qual : Str} {st : Stmt} {f : Addr} {fd : FuncData} {N ps : List Str} {k : Nat} {S : SpM} {body : WS} (F : Fun K x qual st f fd) (S' : FnScope N ps (defScope st)) (hm : mg x = some (.ref f)) (hb : Binds K fd ps []) (hN : ps.length ≤ N.length) (hS : ∀ u ds Q, S u ds Q → ds.length + 1 = ps.length)
    (hrf : ∀ (cdv : Value) (A : Around) (outer : List Env) (s : Shared) (H : Hp) (E : XK), Room k (cxD P w K mg base N qual st f cdv A outer s H E).A → RfS (cxD P w K mg base N qual st f cdv A outer s H E) (defBody st) body)
    (hsp : ∀ a u ds Q, S u ds Q → body (some (.at_ a u) :: ((ds.map fun d => some (T.v d)) ++ List.replicate (N.length - (ds.length + 1)) none)) { nx := fun ρ => ∃ u', slot ρ 0 = some (.at_ a u') ∧ Q (.v .non) u', rt := fun r ρ => ∃ u', slot ρ 0 = some (.at_ a u') ∧ Q r u' }) : Fn P w K mg base (k + 1) x (prM S) := by
  refine fn_m F S' hm hb ?_ hN ?_
  · rintro ts Qt Qx ⟨q, u, ds, rfl, h⟩
    exact ⟨q, u, ds, rfl, hS _ _ _ h⟩
  · intro cdv A outer s H E a u ds Qt Qx hr h
    obtain ⟨q, u', ds', e, h⟩ := h
    rw [List.cons.injEq, T.at_.injEq] at e
    obtain ⟨⟨rfl, rfl⟩, e⟩ := e
    obtain rfl := v_inj e
    refine (hrf cdv A outer s H E hr _ _ (hsp a u ds _ h)).imp (fun ρ h => ?_) (fun r ρ h => ?_) (fun _ h => h) (fun _ h => h) (fun _ _ h => h.elim)
    · obtain ⟨u', e, h⟩ := h; exact ⟨u', slot_get e, h⟩
    · obtain ⟨u', e, h⟩ := h; exact ⟨u', slot_get e, h⟩
end
end Vl
end
section
set_option maxRecDepth 100000
/-! Wp9: more words. -/
namespace Vl
open PySem L2
def bSort : BW := fun ds k => bSortI ds k ∨ bSortS ds k ∨ bSortK ds k
theorem bSort_ok {X : Cx} {ds : List D} {Φ : T → Prop} (h : bSort ds Φ) : CallX X (.builtin "sorted") ds Φ := by
  rcases h with h | h | h
  · exact bSortI_ok h
  · exact bSortS_ok h
  · exact bSortK_ok h
section
variable {X : Cx} {a b c : Expr} {es : List Expr} {ρ : Rho} {wa wb : WE} {pos p p2 p3 apos cpos : Pos} {xa : Str}
/-- [x] * n -/
def wRep (a b : WE) : WE := fun ρ Φ Ξ => a ρ (fun r ρ1 => b ρ1 (fun s ρ2 => ∃ n, s = .v (.int n) ∧ -(2 ^ 63) ≤ n ∧ n ≤ 100000 ∧ Φ (.lst ((List.replicate n.toNat r.d).map T.v)) ρ2) Ξ) Ξ
theorem rf_rep {pl : Pos} (ha : RfE X a wa) (hb : RfE X b wb) (hs : starEach [a] X.env = (false, eval a X.env) :: starEach [] X.env := by rfl) : RfE X (.BinOp (.List [a] pl) .Mult b pos) (wRep wa wb) := fun ρ Φ Ξ h B F0 st vst σ H Q Wx tk hl R k kx =>
  ⟨_, pe_op op_rep (pe_lst (pa_cons (pe_u X a) pa_nil hs)) (pe_u X b), ha _ _ _ h B F0 st vst σ H _ Wx tk hl R (fun r ρ1 v H1 h1 R1 => by
    refine ⟨by rw [sizeLine_eq]; simp, fun p hp => ?_⟩
    have R1' : Rl X.K B F0 (some (.lst [.v r.d]) :: (st ++ ρ1)) (some (.ref p) :: (vst ++ σ)) (upd H1 p (.lst [v])) := Rl.newLst (ts := [.v r.d]) (vs := [v]) (Rl.frz1 R1) rfl hp
    refine hb _ _ _ h1 B F0 (some (.lst [.v r.d]) :: st) (some (.ref p) :: vst) σ _ _ Wx tk (sl1 hl) R1' (fun s ρ2 u H2 h2 R2 => ?_) (fun x ρ1 cls d F H' hx RF xd => kx x ρ1 cls d F H' hx RF.drop' xd)
    obtain ⟨n, rfl, n1, n2, h3⟩ := h2
    have R3 : Rl X.K B F0 (some (.lst [.v r.d]) :: (st ++ ρ2)) (some (.ref p) :: (vst ++ σ)) H2 := R2.drop
    obtain ⟨aa, xs, e, hA, lA, R4⟩ := R3.openL
    cases e
    match xs, lA with
    | [x], _ =>
      refine ⟨p, n, [x], rfl, R2.headI, hA, n1, by omega, by rw [sizeLine_eq]; simp; omega, fun q hq => k _ ρ2 _ _ h3 ?_⟩
      have R5 : Rl X.K B F0 (some (.v r.d) :: (st ++ ρ2)) (some x :: (vst ++ σ)) H2 := R4
      have fl : ∀ m : Nat, (List.replicate m [x]).flatten = List.replicate m x := fun m => by induction m with
        | zero => rfl
        | succ m ih => rw [List.replicate_succ, List.flatten_cons, ih]; rfl
      rw [fl]
      obtain ⟨F, RF, hd⟩ := R5.elimF
      have hden : ∀ m : Nat, DenL X.K F (List.replicate m x) (List.replicate m r.d) := fun m => by induction m with
        | zero => exact .nil
        | succ m ih => rw [List.replicate_succ, List.replicate_succ]; exact .cons hd ih
      exact Rl.newLst (RF.pushL (hden n.toNat)).rl (by simp) hq) kx⟩
/-- x in xs, xs the owned list of slot i, plain things in it -/
def wInO (neg : Bool) (a : WE) (i : Nat) : WE := fun ρ Φ Ξ => a ρ (fun r ρ1 => r.d.flat = true ∧ ∃ ds : List D, (slot ρ1 i = some (.lst (ds.map T.v)) ∨ (∃ q, slot ρ1 i = some (.at_ q (.lst (ds.map T.v)))) ∨ slot ρ1 i = some (.v (.lst ds))) ∧ ds.all D.flat = true ∧ Φ (.v (.bl (if neg then !ds.any (deq r.d) else ds.any (deq r.d)))) ρ1) Ξ
/-- a new dict -/
def wDnew : WE := fun ρ Φ _ => Φ (.dic []) ρ
theorem rf_dnew : RfE X (.Dict [] [] pos) wDnew := fun ρ Φ Ξ h => .of ev_dnew h
end
/-- the names of a comprehension's block: its own, or captured -/
theorem blk_of {N : List Str} {sc scope : Scope} {own : List (Str × Nat)} (h : blkC N sc scope own = true) : BlkOk N sc scope own := L2.blkOk_by h
end Vl
end
section
set_option maxRecDepth 100000
namespace Vl
open PySem L2
def topS (i : Nat) : Stmt := PySem.Challenge.pw_wholestakes_k51_plain_plans_refused.main.body.getD i (.Pass ⟨0, 0, 0, 0⟩)
section
variable {P : Program} {w : World} {K : PySem.W.Frag} {mg : Str → Option Value} {base : Heap}
abbrev st_is_integer : Stmt := topS 7
theorem sc_is_integer : FnScope ["thing"] ["thing"] (defScope st_is_integer) := ⟨rfl, rfl, rfl, by decide +kernel, rfl, by decide +kernel, by decide +kernel⟩
theorem fn_is_integer {f : Addr} {fd : FuncData} (F : Fun K "is_integer" "is_integer" st_is_integer f fd) (hm : mg "is_integer" = some (.ref f)) (hb : Binds K fd ["thing"] []) (G : Bl mg) : Fn P w K mg base 1 "is_integer" (R_is_integer K) := by
  refine fn_v F sc_is_integer hm hb ?_ (by decide) ?_
  · rintro ts Qt Qx ⟨d, rfl, _⟩; exact ⟨[d], rfl, rfl⟩
  · rintro cdv A outer s H E ds Qt Qx hr ⟨d, e, ok, q⟩
    have g := gd_of sc_is_integer hr
    obtain rfl : ds = [d] := by
      match ds, e with
      | [x], e => simp at e; rw [e]
    refine s_cons (s_ret (ev_and (ev_isi (ev_var 0) (ev_bty G.at PyProof.Rows.boot_int) ok (kit_i ok) G.at) (fun _ => ev_one (ev_not (ev_isi (ev_var 0) (ev_bty G.at PyProof.Rows.boot_bool) ok (kit_b ok) G.at)))) ?_)
    exact q
abbrev st_is_within : Stmt := topS 8
abbrev st_is_letter : Stmt := topS 10
abbrev st_is_rising : Stmt := topS 11
theorem sc_is_within : FnScope ["thing", "low", "high"] ["thing", "low", "high"] (defScope st_is_within) := ⟨rfl, rfl, rfl, by decide +kernel, rfl, by decide +kernel, by decide +kernel⟩
theorem sc_is_letter : FnScope ["thing"] ["thing"] (defScope st_is_letter) := ⟨rfl, rfl, rfl, by decide +kernel, rfl, by decide +kernel, by decide +kernel⟩
theorem sc_is_rising : FnScope ["items", "at"] ["items"] (defScope st_is_rising) := ⟨rfl, rfl, rfl, by decide +kernel, rfl, by decide +kernel, by decide +kernel⟩
theorem fn_is_within {f : Addr} {fd : FuncData} (F : Fun K "is_within" "is_within" st_is_within f fd) (hm : mg "is_within" = some (.ref f)) (hb : Binds K fd ["thing", "low", "high"] []) (Fi : Fn P w K mg base 1 "is_integer" (R_is_integer K)) : Fn P w K mg base 2 "is_within" R_is_within := by
  refine fn_v F sc_is_within hm hb ?_ (by decide) ?_
  · rintro ts Qt Qx ⟨a, lo, hi, rfl, _⟩; exact ⟨[.int a, .int lo, .int hi], rfl, rfl⟩
  · rintro cdv A outer s H E ds Qt Qx hr ⟨a, lo, hi, e, q⟩
    have g := gd_of sc_is_within hr
    obtain rfl : ds = [.int a, .int lo, .int hi] := v_inj e
    refine s_cons (s_ret (ev_and (ev_callV [.int a] Fi (hr.mono (by decide)) (eva_cons (ev_var 0) eva_nil) ⟨_, rfl, trivial, rfl⟩) (fun _ => ev_one (ev_chain (ev_var 1) (ev_var 0) (fun _ => ev_var 2) cv_le (fun _ => cv_le)))) ?_)
    exact q
theorem fn_is_letter {f : Addr} {fd : FuncData} (F : Fun K "is_letter" "is_letter" st_is_letter f fd) (hm : mg "is_letter" = some (.ref f)) (hb : Binds K fd ["thing"] []) (G : Bl mg) : Fn P w K mg base 1 "is_letter" R_is_letter := by
  refine fn_v F sc_is_letter hm hb ?_ (by decide) ?_
  · rintro ts Qt Qx ⟨c, rfl, _⟩; exact ⟨[.str ⟨#[c]⟩], rfl, rfl⟩
  · rintro cdv A outer s H E ds Qt Qx hr ⟨c, e, q⟩
    have g := gd_of sc_is_letter hr
    obtain rfl : ds = [.str ⟨#[c]⟩] := v_inj e
    refine s_cons (s_ret (ev_and (ev_isi (ev_var 0) (ev_bty G.at PyProof.Rows.boot_str) (d := .str ⟨#[c]⟩) trivial (kit_s (d := .str ⟨#[c]⟩) trivial) G.at) (fun _ => ev_and (ev_cmpv (ev_len (eva_cons (ev_var 0) eva_nil) (n := 1) (by rw [T.d_v]; rfl) (by decide) G.at) ev_int cv_eqI) (fun _ => ev_one (ev_chain ev_str (ev_var 0) (fun _ => ev_str) cv_leS (fun _ => cv_leS))))) ?_)
    refine Eq.mp (congrArg (fun b => Qt (.v (.bl b)) ([.str ⟨#[c]⟩].map T.v)) ?_) q
    have h1 : ([c] < [97]) ↔ c < 97 := by simp [List.cons_lt_cons_iff]
    have h2 : ([122] < [c]) ↔ 122 < c := by simp [List.cons_lt_cons_iff]
    show decide (97 ≤ c ∧ c ≤ 122) = (true && (decide ((1 : Int) = 1) && ((!decide ([c] < [97])) && !decide ([122] < [c]))))
    by_cases a1 : 97 ≤ c <;> by_cases a2 : c ≤ 122 <;> simp [a1, a2, h1, h2] <;> omega
theorem fn_is_rising {f : Addr} {fd : FuncData} (F : Fun K "is_rising" "is_rising" st_is_rising f fd) (hm : mg "is_rising" = some (.ref f)) (hb : Binds K fd ["items"] []) (G : Bl mg) : Fn P w K mg base 1 "is_rising" R_is_rising := by
  refine fn_v F sc_is_rising hm hb ?_ (by decide) ?_
  · rintro ts Qt Qx ⟨ks, rfl, _⟩; exact ⟨[.tup (ks.map tK)], rfl, rfl⟩
  · rintro cdv A outer s_0 H_0 E ds Qt Qx hr ⟨ks, e, hz, h1, hs, q⟩
    have g := gd_of sc_is_rising hr
    obtain rfl : ds = [.tup (ks.map tK)] := v_inj e
    have hlen : (D.tup (ks.map tK)).len = some ks.length := by simp [D.len]
    refine s_cons (s_ret (ρ1 := [some (.v (.tup (ks.map tK))), none]) (ev_all (ns := List.replicate (ks.length - 1) true) (r := .lst ((List.replicate (ks.length - 1) (D.bl true)).map T.v)) (eva_cons ?_ eva_nil) (by rw [lst_vd, List.map_replicate]) g.calm G.at) ?_)
    · refine ev_lc (n := ((ks.length : Int) - 1).toNat) [("at", 1)] (fun i ρ acc => ρ = [some (.v (.tup (ks.map tK))), none] ∧ acc = List.replicate i (.v (.bl true))) g
        (it_range1 (eva_cons (ev_sub (ev_len (eva_cons (ev_var 0) eva_nil) (by rw [T.d_v]; exact hlen) (by omega) G.at) ev_int) eva_nil) (by omega) (by omega) G.at) ?_ ?_ ⟨rfl, rfl⟩ ?_ ?_ ?_
      · show BlkOk ["items", "at"] (defScope st_is_rising) _ [("at", 1)]
        exact ⟨rfl, by decide +kernel, by decide +kernel, by decide +kernel, by decide +kernel⟩
      · intro j hj t h
        simp at hj
        subst hj
        simp at h
      · rintro i ρ acc hi ⟨rfl, rfl⟩
        have hi2 : i + 1 < ks.length := by omega
        obtain ⟨hl, hlt⟩ := hs i ks[i] ks[i + 1] (List.getElem?_eq_getElem (by omega)) (List.getElem?_eq_getElem hi2)
        refine ⟨[some (.v (.tup (ks.map tK))), some (.v (.int (i : Int)))], true, [some (.v (.tup (ks.map tK))), some (.v (.int (i : Int)))], fun s H C cl fp => tgk_name 1 g.nd, fun s H C cl fp => ts_nil, fun _ => ⟨.v (.bl true), [some (.v (.tup (ks.map tK))), some (.v (.int (i : Int)))], fun s H C cl fp => ?_, rfl, ?_⟩, fun e => by cases e⟩
        · have a1 : atI (ks.map tK) (i : Int) = some (tK ks[i]) := at_nat (by rw [List.getElem?_map, List.getElem?_eq_getElem (by omega : i < ks.length)]; rfl)
          have a2 : atI (ks.map tK) ((i : Int) + 1) = some (tK ks[i + 1]) := at_nat (i := i + 1) (by rw [List.getElem?_map, List.getElem?_eq_getElem hi2]; rfl)
          refine ev_cmpv (bo := true) (x := tK ks[i]) (y := tK ks[i + 1]) (ev_ixT (ev_var 0) (ev_var 1) a1) (ev_ixT (ev_var 0) (ev_add (ev_var 1) ev_int) a2) ?_
          exact cv_ltKb g.hu hl hlt
        · rw [List.replicate_succ']
      · rintro ρ acc ⟨rfl, rfl⟩
        exact ⟨by rw [List.map_replicate]; congr 1; omega, rfl⟩
      · omega
    · simpa using q
abbrev st_is_place : Stmt := topS 13
abbrev st_check_place : Stmt := topS 14
abbrev st_wrong_part : Stmt := topS 23
abbrev st_are_arrows : Stmt := topS 24
abbrev st_is_arrow : Stmt := topS 25
theorem sc_is_arrow : FnScope ["places", "thing", "start", "letter", "pay", "to"] ["places", "thing"] (defScope st_is_arrow) := ⟨rfl, rfl, rfl, by decide +kernel, rfl, by decide +kernel, by decide +kernel⟩
theorem sc_are_arrows : FnScope ["places", "thing", "found"] ["places", "thing"] (defScope st_are_arrows) := ⟨rfl, rfl, rfl, by decide +kernel, rfl, by decide +kernel, by decide +kernel⟩
theorem sc_wrong_part : FnScope ["places", "arrows", "found"] ["places", "arrows"] (defScope st_wrong_part) := ⟨rfl, rfl, rfl, by decide +kernel, rfl, by decide +kernel, by decide +kernel⟩
theorem fn_is_arrow {f : Addr} {fd : FuncData} (F : Fun K "is_arrow" "is_arrow" st_is_arrow f fd) (hm : mg "is_arrow" = some (.ref f)) (hb : Binds K fd ["places", "thing"] []) (G : Bl mg) (M : Mc mg) (Fw : Fn P w K mg base 2 "is_within" R_is_within) (Fl : Fn P w K mg base 1 "is_letter" R_is_letter) : Fn P w K mg base 3 "is_arrow" R_is_arrow := by
  refine fn_v F sc_is_arrow hm hb ?_ (by decide) ?_
  · rintro ts Qt Qx ⟨n, a, rfl, _⟩; exact ⟨[.int n, tK (aK a)], rfl, rfl⟩
  · rintro cdv A outer s_0 H_0 E ds Qt Qx hr ⟨n, ⟨s, l, p, t⟩, e, ok, q⟩
    have g := gd_of sc_is_arrow hr
    obtain ⟨s0, s1, ⟨c, rfl, c1, c2⟩, p0, p1, t0, t1⟩ := ok
    dsimp only at s0 s1 p0 p1 t0 t1
    obtain rfl : ds = [.int n, .tup [.int s, .str ⟨#[c]⟩, .int p, .int t]] := v_inj e
    refine s_cons (s_if (bo := false) (tv_w (tw_or (bo := false) (bo' := false) (tv_not (tv_val (bo := true) (ev_isi (d := .tup [.int s, .str ⟨#[c]⟩, .int p, .int t]) (ev_var 1) (ev_bty G.at PyProof.Rows.boot_tuple) trivial (kit_t (d := .tup [.int s, .str ⟨#[c]⟩, .int p, .int t]) trivial) G.at))) (fun _ => tw_or1 (tv_cmpv (bo := false) (ev_len (n := 4) (eva_cons (ev_var 1) eva_nil) (by rw [T.d_v]; rfl) (by decide) G.at) ev_int cv_neI)))) (fun e => by cases e) fun _ => s_nil ?_)
    refine s_cons (s_asg (ev_var 1) (tg_tup g (tgs_cons (tg_name 2 g) (tgs_cons (tg_name 3 g) (tgs_cons (tg_name 4 g) (tgs_cons (tg_name 5 g) tgs_nil)))) rfl) ?_)
    refine s_cons (s_if (bo := false) (tv_w (tw_or (bo := false) (bo' := false) (tv_not (tv_val (bo := true) (ev_callV [.int s, .int 0, .int (n - 1)] Fw (hr.mono (by decide)) (eva_cons (ev_var 2) (eva_cons ev_int (eva_cons (ev_sub (ev_var 0) ev_int) eva_nil))) ⟨_, _, _, rfl, wit s0 (by omega)⟩))) (fun _ => tw_or1 (tv_not (tv_val (bo := true) (ev_callV [.int t, .int 0, .int (n - 1)] Fw (hr.mono (by decide)) (eva_cons (ev_var 5) (eva_cons ev_int (eva_cons (ev_sub (ev_var 0) ev_int) eva_nil))) ⟨_, _, _, rfl, wit t0 (by omega)⟩)))))) (fun e => by cases e) fun _ => s_nil ?_)
    refine s_cons (s_ret (ev_and (c := true) (d := true) (ev_callV [.str ⟨#[c]⟩] Fl (hr.mono (by decide)) (eva_cons (ev_var 3) eva_nil) ⟨_, rfl, ?_⟩) (fun _ => ev_one (ev_callV [.int p, .int 0, .int 9] Fw (hr.mono (by decide)) (eva_cons (ev_var 4) (eva_cons ev_int (eva_cons (ev_mI M.pay) eva_nil))) ⟨_, _, _, rfl, wit p0 p1⟩))) ?_)
    · rw [decide_eq_true (show 97 ≤ c ∧ c ≤ 122 from ⟨c1, c2⟩)]
    · exact q
theorem fn_are_arrows {f : Addr} {fd : FuncData} (F : Fun K "are_arrows" "are_arrows" st_are_arrows f fd) (hm : mg "are_arrows" = some (.ref f)) (hb : Binds K fd ["places", "thing"] []) (G : Bl mg) (M : Mc mg) (Fa : Fn P w K mg base 3 "is_arrow" R_is_arrow) (Fr : Fn P w K mg base 1 "is_rising" R_is_rising) : Fn P w K mg base 4 "are_arrows" R_are_arrows := by
  refine fn_v F sc_are_arrows hm hb ?_ (by decide) ?_
  · rintro ts Qt Qx ⟨n, as, rfl, _⟩; exact ⟨[.int n, .tup (as.map fun a => tK (aK a))], rfl, rfl⟩
  · rintro cdv A outer s_0 H_0 E ds Qt Qx hr ⟨n, as, e, ok, q⟩
    have g := gd_of sc_are_arrows hr
    obtain rfl : ds = [.int n, .tup (as.map fun a => tK (aK a))] := v_inj e
    have hl1 := ok.l1
    have hl2 := ok.l2
    have hlen : (T.v (.tup (as.map fun a => tK (aK a)))).d.len = some as.length := by rw [T.d_v]; simp [D.len]
    refine s_cons (s_if (bo := false) (tv_w (tw_or (bo := false) (bo' := false) (tv_not (tv_val (bo := true) (ev_isi (d := .tup (as.map fun a => tK (aK a))) (ev_var 1) (ev_bty G.at PyProof.Rows.boot_tuple) trivial (kit_t (d := .tup (as.map fun a => tK (aK a))) trivial) G.at))) (fun _ => tw_or1 (tv_not (tv_chain (bo := true) (bo' := true) (x := .int 1) (y := .int as.length) (z := .int 60) ev_int (ev_len (n := as.length) (eva_cons (ev_var 1) eva_nil) hlen (by omega) G.at) (fun _ => ev_mI M.arrows) (cv_leb (by simp; omega)) (fun _ => cv_leb (by simp; omega))))))) (fun e => by cases e) fun _ => s_nil ?_)
    refine s_cons (s_ret (ev_and (c := true) (d := true) (ρ1 := [some (.v (.int n)), some (.v (.tup (as.map fun a => tK (aK a)))), none]) (ev_allb (List.replicate as.length true) (by simp) (r := .lst ((List.replicate as.length (D.bl true)).map T.v)) (eva_cons ?_ eva_nil) (by rw [lst_vd, List.map_replicate]) g.calm G.at) (fun _ => ev_one (ev_callV [.tup (as.map fun a => tK (aK a))] Fr (hr.mono (by decide)) (eva_cons (ev_var 1) eva_nil) ⟨as.map aK, by rw [List.map_map]; rfl, by simpa using hl2, by simpa using hl1, ?_, rfl⟩))) ?_)
    · refine ev_lc (n := as.length) [("found", 2)] (fun i ρ acc => ρ = [some (.v (.int n)), some (.v (.tup (as.map fun a => tK (aK a)))), none] ∧ acc = List.replicate i (.v (.bl true))) g
        (Iter.to (it_tup (ev_var 1)) (item' := fun i => tK (aK (as.getD i default))) (by simp) (fun i hi => by simp [List.getD_eq_getElem?_getD, hi])) ?_ ?_ ⟨rfl, rfl⟩ ?_ ?_ ?_
      · show BlkOk ["places", "thing", "found"] (defScope st_are_arrows) _ [("found", 2)]
        exact ⟨rfl, by decide +kernel, by decide +kernel, by decide +kernel, by decide +kernel⟩
      · intro j hj t h
        simp at hj
        subst hj
        simp at h
      · rintro i ρ acc hi ⟨rfl, rfl⟩
        refine ⟨[some (.v (.int n)), some (.v (.tup (as.map fun a => tK (aK a)))), some (.v (tK (aK (as.getD i default))))], true, [some (.v (.int n)), some (.v (.tup (as.map fun a => tK (aK a)))), some (.v (tK (aK (as.getD i default))))], fun s H C cl fp => tgk_name 2 g.nd, fun s H C cl fp => ts_nil, fun _ => ⟨.v (.bl true), [some (.v (.int n)), some (.v (.tup (as.map fun a => tK (aK a)))), some (.v (tK (aK (as.getD i default))))], fun s H C cl fp => ?_, rfl, ?_⟩, fun e => by cases e⟩
        · exact ev_callV [.int n, tK (aK (as.getD i default))] Fa hr (eva_cons (ev_var 0) (eva_cons (ev_var 2) eva_nil)) ⟨n, as.getD i default, rfl, ok.ok _ (by simp [List.getD_eq_getElem?_getD, hi]), rfl⟩
        · rw [List.replicate_succ']
      · rintro ρ acc ⟨rfl, rfl⟩
        exact ⟨by rw [List.map_replicate], rfl⟩
      · omega
    · intro i a b h1 h2
      rw [List.getElem?_map] at h1 h2
      obtain ⟨hi1, rfl⟩ : ∃ h : i < as.length, a = aK as[i] := by
        by_cases h : i < as.length
        · rw [List.getElem?_eq_getElem h] at h1; exact ⟨h, by simpa using h1.symm⟩
        · rw [List.getElem?_eq_none_iff.mpr (by omega)] at h1; simp at h1
      obtain ⟨hi2, rfl⟩ : ∃ h : i + 1 < as.length, b = aK as[i + 1] := by
        by_cases h : i + 1 < as.length
        · rw [List.getElem?_eq_getElem h] at h2; exact ⟨h, by simpa using h2.symm⟩
        · rw [List.getElem?_eq_none_iff.mpr (by omega)] at h2; simp at h2
      refine ⟨likeK_aK _ _, ?_⟩
      have := List.pairwise_iff_getElem.mp ok.up i (i + 1) (by simpa using hi1) (by simpa using hi2) (by omega)
      simpa using this
    · exact q
theorem fn_wrong_part {f : Addr} {fd : FuncData} (F : Fun K "wrong_part" "wrong_part" st_wrong_part f fd) (hm : mg "wrong_part" = some (.ref f)) (hb : Binds K fd ["places", "arrows"] []) (G : Bl mg) (M : Mc mg) (Fw : Fn P w K mg base 2 "is_within" R_is_within) (Fa : Fn P w K mg base 4 "are_arrows" R_are_arrows) : Fn P w K mg base 5 "wrong_part" R_wrong_part := by
  refine fn_v F sc_wrong_part hm hb ?_ (by decide) ?_
  · rintro ts Qt Qx ⟨n, as, rfl, _⟩; exact ⟨[.int n, .tup (as.map fun a => tK (aK a))], rfl, rfl⟩
  · rintro cdv A outer s_0 H_0 E ds Qt Qx hr ⟨n, as, e, ok, q⟩
    have g := gd_of sc_wrong_part hr
    obtain rfl : ds = [.int n, .tup (as.map fun a => tK (aK a))] := v_inj e
    have hl1 := ok.l1
    have hl2 := ok.l2
    have n1 := ok.n1
    have n2 := ok.n2
    have hlen : (T.v (.tup (as.map fun a => tK (aK a)))).d.len = some as.length := by rw [T.d_v]; simp [D.len]
    refine s_cons (s_if (bo := false) (tv_not (tv_val (bo := true) (ev_callV [.int n, .int 1, .int 12] Fw (hr.mono (by decide)) (eva_cons (ev_var 0) (eva_cons ev_int (eva_cons (ev_mI M.places) eva_nil))) ⟨_, _, _, rfl, wit n1 n2⟩))) (fun e => by cases e) fun _ => s_nil ?_)
    refine s_cons (s_if (bo := false) (tv_not (tv_val (bo := true) (ev_callV [.int n, .tup (as.map fun a => tK (aK a))] Fa (hr.mono (by decide)) (eva_cons (ev_var 0) (eva_cons (ev_var 1) eva_nil)) ⟨_, _, rfl, ok, rfl⟩))) (fun e => by cases e) fun _ => s_nil ?_)
    refine s_cons (s_if (bo := false) (ρ1 := [some (.v (.int n)), some (.v (.tup (as.map fun a => tK (aK a)))), none]) (tv_cmpv (x := .int as.length) (y := .int as.length) ?_ (ev_len (n := as.length) (eva_cons (ev_var 1) eva_nil) hlen (by omega) G.at) (cv_ltb (by simp))) (fun e => by cases e) fun _ => s_nil ?_)
    · refine ev_lenT (n := as.length) (ρ1 := [some (.v (.int n)), some (.v (.tup (as.map fun a => tK (aK a)))), none]) [("found", 2)] (fun i => [.inl (as.getD i default).1, .inr (as.getD i default).2.1]) as.length (fun i ρ => ρ = [some (.v (.int n)), some (.v (.tup (as.map fun a => tK (aK a)))), none]) g G.at
        (Iter.to (it_tup (ev_var 1)) (item' := fun i => tK (aK (as.getD i default))) (by simp) (fun i hi => by simp [List.getD_eq_getElem?_getD, hi])) ?_ (by omega) ?_ rfl ?_ (fun _ h => h) ?_
      · show BlkOk ["places", "arrows", "found"] (defScope st_wrong_part) _ [("found", 2)]
        exact ⟨rfl, by decide +kernel, by decide +kernel, by decide +kernel, by decide +kernel⟩
      · intro j hj t h
        simp at hj
        subst hj
        simp at h
      · rintro i ρ hi rfl
        refine ⟨[some (.v (.int n)), some (.v (.tup (as.map fun a => tK (aK a)))), some (.v (tK (aK (as.getD i default))))], [some (.v (.int n)), some (.v (.tup (as.map fun a => tK (aK a)))), some (.v (tK (aK (as.getD i default))))], fun s H C cl fp => tgk_name 2 g.nd, fun s H C cl fp => ?_, rfl⟩
        exact ev_slT (ds := (aK (as.getD i default)).map kD) (l := none) (u := some 2) (ev_var 2) evo_none (evo_some ev_int)
      · intro L nd hL
        have : L.length = (as.map fun a => ([.inl a.1, .inr a.2.1] : List Key)).length := by
          refine len_same nd ?_ fun k => ?_
          · have := ok.tw
            rw [List.Nodup, List.pairwise_map] at this ⊢
            refine this.imp fun {a b} h e => h ?_
            simp only [List.cons.injEq, Sum.inl.injEq, Sum.inr.injEq, and_true] at e
            exact Prod.ext e.1 e.2
          · rw [hL, List.mem_map]
            constructor
            · rintro ⟨i, hi, e⟩
              exact ⟨as.getD i default, by simp [List.getD_eq_getElem?_getD, hi], e⟩
            · rintro ⟨a, ha, e⟩
              obtain ⟨i, hi, rfl⟩ := List.getElem_of_mem ha
              exact ⟨i, hi, by simp [List.getD_eq_getElem?_getD, hi]; exact e⟩
        rw [this, List.length_map]
    refine s_cons (s_if (bo := false) (ρ1 := [some (.v (.int n)), some (.v (.tup (as.map fun a => tK (aK a)))), none]) (tv_cmpv (x := .int n) (y := .int n) ?_ (ev_var 0) (cv_ltb (by simp))) (fun e => by cases e) fun _ => s_nil ?_)
    · refine ev_lenI (n := as.length) (ρ1 := [some (.v (.int n)), some (.v (.tup (as.map fun a => tK (aK a)))), none]) [("found", 2)] (fun i => (as.getD i default).1) n (fun i ρ => ρ = [some (.v (.int n)), some (.v (.tup (as.map fun a => tK (aK a)))), none]) g G.at
        (Iter.to (it_tup (ev_var 1)) (item' := fun i => tK (aK (as.getD i default))) (by simp) (fun i hi => by simp [List.getD_eq_getElem?_getD, hi])) ?_ (by omega) ?_ rfl ?_ (fun _ h => h) ?_
      · show BlkOk ["places", "arrows", "found"] (defScope st_wrong_part) _ [("found", 2)]
        exact ⟨rfl, by decide +kernel, by decide +kernel, by decide +kernel, by decide +kernel⟩
      · intro j hj t h
        simp at hj
        subst hj
        simp at h
      · rintro i ρ hi rfl
        refine ⟨[some (.v (.int n)), some (.v (.tup (as.map fun a => tK (aK a)))), some (.v (tK (aK (as.getD i default))))], [some (.v (.int n)), some (.v (.tup (as.map fun a => tK (aK a)))), some (.v (tK (aK (as.getD i default))))], fun s H C cl fp => tgk_name 2 g.nd, fun s H C cl fp => ?_, rfl⟩
        exact ev_ixT (ds := (aK (as.getD i default)).map kD) (n := 0) (ev_var 2) ev_int rfl
      · intro L nd hL
        have : L.length = ((List.range n.toNat).map fun i : Nat => (i : Int)).length := by
          refine len_same nd ?_ fun k => ?_
          · rw [List.Nodup, List.pairwise_map]; exact List.nodup_range.imp fun {a b} h e => h (by omega)
          · rw [hL, List.mem_map]
            constructor
            · rintro ⟨i, hi, e⟩
              have := ok.ok (as.getD i default) (by simp [List.getD_eq_getElem?_getD, hi])
              have a0 := this.s0
              have a1 := this.s1
              rw [e] at a0 a1
              exact ⟨k.toNat, by simp; omega, by omega⟩
            · rintro ⟨i, hi, rfl⟩
              simp at hi
              obtain ⟨a, ha, e⟩ := ok.all i (by omega) (by omega)
              obtain ⟨j, hj, rfl⟩ := List.getElem_of_mem ha
              exact ⟨j, hj, by simp [List.getD_eq_getElem?_getD, hj]; exact e⟩
        rw [this]
        simp
        omega
    exact s_cons (s_ret ev_non q)
abbrev st_track_init : Stmt := inClass (topS 22) 0
theorem sc_track_init : FnScope ["self", "places", "arrows", "wrong"] ["self", "places", "arrows"] (defScope st_track_init) := ⟨rfl, rfl, rfl, by decide +kernel, rfl, by decide +kernel, by decide +kernel⟩
theorem cn_track {f C : Addr} {fd : FuncData} (F : Fun K "__init__" "Track.__init__" st_track_init f fd) (Mm : Mk K C f) (hC : mg "Track" = some (.ref C)) (hb : Binds K fd ["self", "places", "arrows"] []) (T0 : Tc K C) (Fp : Fn P w K mg base 5 "wrong_part" R_wrong_part) : Cn P w K mg base 6 "Track" C (R_track C) := by
  refine ⟨f, fd, _, Mm, fnok_m F sc_track_init ?_ (by decide) ?_, hC, hb⟩
  · rintro ts Qt Qx ⟨q, n, as, rfl, _⟩; exact ⟨q, _, [.int n, asD as], rfl, rfl⟩
  · rintro cdv A outer s_0 H_0 E a u ds Qt Qx hr ⟨q, n, as, e, ok, h⟩
    have g := gd_of sc_track_init hr
    rw [List.cons.injEq, T.at_.injEq] at e
    obtain ⟨⟨rfl, rfl⟩, e⟩ := e
    obtain rfl : ds = [.int n, asD as] := v_inj e
    refine s_cons (s_set 3 g (ev_callV [.int n, asD as] Fp (hr.mono (by decide)) (eva_cons (ev_var 1) (eva_cons (ev_var 2) eva_nil)) ⟨_, _, rfl, ok, rfl⟩) ?_)
    refine s_cons (s_if (bo := false) (tv_notN (d := .non) (ev_var 3)) (fun e => by cases e) fun _ => s_nil ?_)
    refine s_cons (s_fld 0 (ev_var 1) rfl (.inr ⟨_, rfl⟩) T0.cls T0.np (by decide) ?_)
    refine s_cons (s_fld 0 (ev_var 2) rfl (.inr ⟨_, rfl⟩) T0.cls T0.na (by simp [fput]) ?_)
    refine s_nil ⟨_, rfl, ?_⟩
    have e1 : fput "arrows" (T.v (asD as)) (fput "places" (T.v (.int n)) []) = ([("places", T.v (.int n)), ("arrows", T.v (asD as))] : List (Str × T)) := by
      have : ¬ (("places" : Str) = "arrows") := by decide +kernel
      simp [fput, this]
    show Qt _ (.at_ a (.obj C (fput "arrows" (T.v (asD as)) (fput "places" (T.v (.int n)) []))) :: _)
    rw [e1]
    exact h
abbrev st_ways_of : Stmt := topS 26
theorem sc_ways_of : FnScope ["track", "ways", "start", "letter", "pay", "to", "_"] ["track"] (defScope st_ways_of) := ⟨rfl, rfl, rfl, by decide +kernel, rfl, by decide +kernel, by decide +kernel⟩
theorem fn_ways_of {f C : Addr} {fd : FuncData} (F : Fun K "ways_of" "ways_of" st_ways_of f fd) (hm : mg "ways_of" = some (.ref f)) (hb : Binds K fd ["track"] []) (G : Bl mg) (T0 : Tc K C) : Fn P w K mg base 1 "ways_of" (R_ways_of C) := by
  refine fn_v F sc_ways_of hm hb ?_ (by decide) ?_
  · rintro ts Qt Qx ⟨n, as, rfl, _⟩; exact ⟨[trD C n as], rfl, rfl⟩
  · rintro cdv A outer s_0 H_0 E ds Qt Qx hr ⟨n, as, e, ok, q⟩
    have g := gd_of sc_ways_of hr
    obtain rfl : ds = [trD C n as] := v_inj e
    have n1 := ok.n1
    have n2 := ok.n2
    have l2 := ok.l2
    refine s_cons ?_
    refine s_setLc (n := n.toNat) (accF := List.replicate n.toNat (.dic [])) (ρF := [some (.v (trD C n as)), none, none, none, none, none, none]) 1 [("_", 6)] (fun i ρ acc => ρ = [some (.v (trD C n as)), none, none, none, none, none, none] ∧ acc = List.replicate i (.dic [])) g
        (it_range1 (nn := n) (eva_cons (ev_fld (ev_var 0) T0.cls T0.np rfl) eva_nil) (by omega) (by omega) G.at) ?_ ?_ ⟨rfl, rfl⟩ ?_ ?_ ?_ ?_
    iterate 1
      · show BlkOk ["track", "ways", "start", "letter", "pay", "to", "_"] (defScope st_ways_of) _ [("_", 6)]
        exact ⟨rfl, by decide +kernel, by decide +kernel, by decide +kernel, by decide +kernel⟩
    · intro j hj t h
      simp at hj
      subst hj
      simp at h
    · rintro i ρ acc hi ⟨rfl, rfl⟩
      · refine ⟨[some (.v (trD C n as)), none, none, none, none, none, some (.v (.int i))], true, [some (.v (trD C n as)), none, none, none, none, none, some (.v (.int i))], fun s H C cl fp => tgk_name 6 g.nd, fun s H C cl fp => ts_nil, fun _ => ⟨.dic [], [some (.v (trD C n as)), none, none, none, none, none, some (.v (.int i))], fun s H C cl fp => ev_dnew, rfl, ?_⟩, fun e => by cases e⟩
        rw [List.replicate_succ']
    · rintro ρ acc ⟨rfl, rfl⟩
      exact ⟨rfl, rfl⟩
    · omega
    refine s_cons (s_for (n := as.length) (item := fun i => tK (aK (as.getD i default))) (fun j ρ => ∃ x1 x2 x3 x4, ρ = [some (.v (trD C n as)), some (.lst (waysT n (as.take j))), x1, x2, x3, x4, none]) g (ρ1 := [some (.v (trD C n as)), some (.lst (List.replicate n.toNat (.dic []))), none, none, none, none, none])
      (Iter.to (it_tup (ds := as.map fun a => tK (aK a)) (ev_fld (ev_var 0) T0.cls T0.na rfl)) (by simp) (fun i hi => by simp [List.getD_eq_getElem?_getD, hi])) ⟨none, none, none, none, ?_⟩ ?_ ?_)
    · have : (List.replicate n.toNat (T.dic [])) = waysT n (as.take 0) := by
        simp [waysT, wayT, stepsOf, List.map_const']
      rw [this]
    · rintro j ρ hj ⟨x1, x2, x3, x4, rfl⟩
      have ea : as.getD j default = as[j] := by simp [List.getD_eq_getElem?_getD, hj]
      have ao := ok.ok as[j] (List.getElem_mem hj)
      have s0 := ao.s0
      have s1 := ao.s1
      generalize hA : as[j] = a at *
      obtain ⟨s, l, p, t⟩ := a
      dsimp only at s0 s1
      rw [ea]
      refine ⟨[some (.v (trD C n as)), some (.lst (waysT n (as.take j))), some (.v (.int s)), some (.v (.str l)), some (.v (.int p)), some (.v (.int t)), none], tg_tup g (tgs_cons (tg_name 2 g) (tgs_cons (tg_name 3 g) (tgs_cons (tg_name 4 g) (tgs_cons (tg_name 5 g) tgs_nil)))) rfl, ?_⟩
      have sn : s.toNat < n.toNat := by omega
      have es : ((s.toNat : Nat) : Int) = s := by omega
      have newk : (Sum.inr l : Key) ∉ (wayT (as.take j) (s.toNat : Nat)).map (·.1) := by
        rw [es]
        intro h
        simp only [wayT, List.map_map, List.mem_map, Function.comp_def] at h
        obtain ⟨b, hb1, hb2⟩ := h
        unfold stepsOf at hb1
        rw [List.mem_filter] at hb1
        obtain ⟨hb1, hb3⟩ := hb1
        obtain ⟨i, hi, rfl⟩ := List.getElem_of_mem hb1
        have tw := ok.tw
        rw [List.length_take] at hi
        have := List.pairwise_iff_getElem.mp tw i j (by simp; omega) (by simpa using hj) (by omega)
        refine this ?_
        simp only [List.getElem_map, hA]
        rw [List.getElem_take] at hb2 hb3
        injection hb2 with hb2
        exact Prod.ext (by simpa using hb3) hb2
      refine s_cons (s_setLD (n := s) (j := s.toNat) (k := .inr l) (kts := wayT (as.take j) (s.toNat : Nat)) (ts := waysT n (as.take j)) 1 g.hu (ev_tup (ds := [.int p, .int t]) (eva_cons (ev_var 4) (eva_cons (ev_var 5) eva_nil)) (by simp)) (ev_var 2) (fun ρ' h => ev_var 3 (by rw [h 3 (by decide)]; rfl)) rfl ?_ ?_ ?_ ?_ ?_)
      · simp only [waysT, List.length_map, List.length_range]
        unfold ixN
        rw [if_pos s0, if_pos (by omega)]
      · simp [waysT, sn]
      · rw [wayT, List.map_map]
        rw [List.Nodup, List.pairwise_map]
        have tw : (as.take j).Pairwise fun a b => (a.1, a.2.1) ≠ (b.1, b.2.1) := (List.pairwise_map.mp ok.tw).sublist (List.take_sublist _ _)
        refine List.Pairwise.imp_of_mem (fun {a b} ha hb h e => h ?_) (List.Pairwise.filter _ tw)
        unfold stepsOf at ha hb
        rw [List.mem_filter] at ha hb
        simp only [Function.comp_def] at e
        injection e with e
        have h1 := ha.2
        have h2 := hb.2
        simp only [beq_iff_eq] at h1 h2
        exact Prod.ext (h1.trans h2.symm) e
      · have : (wayT (as.take j) (s.toNat : Nat)).length ≤ as.length := by
          simp only [wayT, stepsOf, List.length_map]
          exact Nat.le_trans (List.length_filter_le _ _) (by simp; omega)
        omega
      · refine s_nil ⟨some (.v (.int s)), some (.v (.str l)), some (.v (.int p)), some (.v (.int t)), ?_⟩
        have : (waysT n (as.take j)).set s.toNat (.dic (kput (wayT (as.take j) (s.toNat : Nat)) (.inr l) (.v (.tup [.int p, .int t])))) = waysT n (as.take (j + 1)) := by
          rw [kput_new newk, waysT, set_map_range _ _ _ _ sn, waysT]
          refine List.map_congr_left fun i hi => ?_
          by_cases e : i = s.toNat
          · subst e
            rw [if_pos rfl, wayT, wayT, steps_take hj, hA, if_pos es.symm, List.map_append]
            rfl
          · rw [if_neg e, wayT, wayT, steps_take hj, hA, if_neg (fun z => e (by dsimp only at z; omega))]
        rw [← this]
        rfl
    · rintro ρ ⟨x1, x2, x3, x4, rfl⟩
      rw [List.take_length]
      exact s_cons (s_ret (ev_varM 1 rfl) q)
theorem sc_is_place : FnScope ["track", "thing"] ["track", "thing"] (defScope st_is_place) := ⟨rfl, rfl, rfl, by decide +kernel, rfl, by decide +kernel, by decide +kernel⟩
theorem sc_check_place : FnScope ["track", "place"] ["track", "place"] (defScope st_check_place) := ⟨rfl, rfl, rfl, by decide +kernel, rfl, by decide +kernel, by decide +kernel⟩
theorem fn_is_place {f C : Addr} {fd : FuncData} (F : Fun K "is_place" "is_place" st_is_place f fd) (hm : mg "is_place" = some (.ref f)) (hb : Binds K fd ["track", "thing"] []) (T0 : Tc K C) (Fw : Fn P w K mg base 2 "is_within" R_is_within) : Fn P w K mg base 3 "is_place" (R_is_place C) := by
  refine fn_v F sc_is_place hm hb ?_ (by decide) ?_
  · rintro ts Qt Qx ⟨n, as, p, rfl, _⟩; exact ⟨[trD C n as, .int p], rfl, rfl⟩
  · rintro cdv A outer s_0 H_0 E ds Qt Qx hr ⟨n, as, p, e, h0, h1, q⟩
    have g := gd_of sc_is_place hr
    obtain rfl : ds = [trD C n as, .int p] := v_inj e
    exact s_cons (s_ret (ev_callV [.int p, .int 0, .int (n - 1)] Fw (hr.mono (by decide)) (eva_cons (ev_var 1) (eva_cons ev_int (eva_cons (ev_sub (ev_fld (ev_var 0) T0.cls T0.np rfl) ev_int) eva_nil))) ⟨_, _, _, rfl, wit h0 (by omega)⟩) q)
theorem fn_check_place {f C : Addr} {fd : FuncData} (F : Fun K "check_place" "check_place" st_check_place f fd) (hm : mg "check_place" = some (.ref f)) (hb : Binds K fd ["track", "place"] []) (Fi : Fn P w K mg base 3 "is_place" (R_is_place C)) : Fn P w K mg base 4 "check_place" (R_check_place C) := by
  refine fn_v F sc_check_place hm hb ?_ (by decide) ?_
  · rintro ts Qt Qx ⟨n, as, p, rfl, _⟩; exact ⟨[trD C n as, .int p], rfl, rfl⟩
  · rintro cdv A outer s_0 H_0 E ds Qt Qx hr ⟨n, as, p, e, h0, h1, q⟩
    have g := gd_of sc_check_place hr
    obtain rfl : ds = [trD C n as, .int p] := v_inj e
    exact s_cons (s_if (bo := false) (tv_not (tv_val (bo := true) (ev_callV [trD C n as, .int p] Fi (hr.mono (by decide)) (eva_cons (ev_var 0) (eva_cons (ev_var 1) eva_nil)) ⟨_, _, _, rfl, h0, h1, rfl⟩))) (fun e => by cases e) fun _ => s_nil (s_nil q))
abbrev st_reached : Stmt := topS 27
theorem sc_reached : FnScope ["track", "place", "ways", "seen", "level", "ahead", "here", "_", "to"] ["track", "place"] (defScope st_reached) := ⟨rfl, rfl, rfl, by decide +kernel, rfl, by decide +kernel, by decide +kernel⟩
theorem fn_reached {f C : Addr} {fd : FuncData} (F : Fun K "reached" "reached" st_reached f fd) (hm : mg "reached" = some (.ref f)) (hb : Binds K fd ["track", "place"] []) (G : Bl mg) (Fc : Fn P w K mg base 4 "check_place" (R_check_place C)) (Fw : Fn P w K mg base 1 "ways_of" (R_ways_of C)) : Fn P w K mg base 5 "reached" (R_reached C) := by
  refine fn_v F sc_reached hm hb ?_ (by decide) ?_
  · rintro ts Qt Qx ⟨n, as, p, ms, rfl, _⟩; exact ⟨[trD C n as, .int p], rfl, rfl⟩
  · rintro cdv A outer s_0 H_0 E ds Qt Qx hr ⟨n, as, p, ms, e, ok, h0, h1, up, hms, q⟩
    have g := gd_of sc_reached hr
    obtain rfl : ds = [trD C n as, .int p] := v_inj e
    refine s_cons (s_expr (ev_callV [trD C n as, .int p] Fc (hr.mono (by decide)) (eva_cons (ev_var 0) (eva_cons (ev_var 1) eva_nil)) ⟨_, _, _, rfl, h0, h1, rfl⟩) ?_)
    refine s_cons (s_set 2 g (ev_ways Fw (hr.mono (by decide)) ok (ev_var 0)) ?_)
    refine s_cons (s_set 3 g (ev_disp1 (k := .inl p) (ev_var 1) ev_bl) ?_)
    refine s_cons (s_set 4 g (ev_lst (ts := [.v (.int p)]) (eva_cons (ev_var 1) eva_nil) (by simp)) ?_)
    refine s_cons (s_while (m0 := 23) (W := fun m ρ => ∃ (S L : List Int) (x6 x7 x8 : Option T), ρ = [some (.v (trD C n as)), some (.v (.int p)), some (.v (.lst (waysD n as))), some (.dic (seenT S)), some (.lst ((L.map D.int).map T.v)), none, x6, x7, x8] ∧ Lev n as p S L ∧ m = 2 * (12 - S.length) + (if L = [] then 0 else 1)) g ⟨[p], [p], none, none, none, rfl, ?_, by simp⟩ ?_)
    · exact ⟨by simp, by simp, fun x hx => by simp at hx; subst hx; exact .start, fun x hx => hx, fun a _ h h' => absurd h h'⟩
    · rintro m ρ ⟨S, L, x6, x7, x8, rfl, lv, rfl⟩
      have l12 := Lev.len ok h0 h1 lv.nd lv.re
      refine ⟨!((L.map D.int).map T.v).isEmpty, _, tv_truO (ts := (L.map D.int).map T.v) 4 rfl (.inl rfl), fun hne => ?_, fun hemp => ?_⟩
      · have hL : L ≠ [] := fun z => by rw [z] at hne; simp at hne
        refine ⟨fun ρ3 => ∃ (A : List Int) (x6 x7 x8 : Option T), ρ3 = [some (.v (trD C n as)), some (.v (.int p)), some (.v (.lst (waysD n as))), some (.dic (seenT (S ++ A))), some (.lst ((A.map D.int).map T.v)), none, x6, x7, x8] ∧ Mid n as p S A (fun a => a.1 ∈ L), ?_, ?_⟩
        · rintro ρ3 ⟨A, y6, y7, y8, rfl, md⟩
          have l12' := Lev.len ok h0 h1 md.nd md.re
          refine ⟨_, ?_, S ++ A, A, y6, y7, y8, rfl, ⟨md.nd, by simp [lv.st], md.re, fun x hx => by simp [hx], fun a ha h h' => ?_⟩, rfl⟩
          · rw [List.length_append] at l12' ⊢
            rw [if_neg hL]
            by_cases hA : A = []
            · rw [if_pos hA, hA]; simp
            · have : 0 < A.length := List.length_pos_iff.mpr hA
              rw [if_neg hA]
              omega
          · have hS : a.1 ∈ S := by
              rcases List.mem_append.mp h with z | z
              · exact z
              · exact absurd z h'
            by_cases hl : a.1 ∈ L
            · exact md.cl a ha hl
            · exact List.mem_append_left _ (lv.cl a ha hS hl)
        · refine s_cons (s_set 5 g (ev_lst (ts := []) eva_nil (by simp)) ?_)
          refine s_cons (s_for (n := L.length) (item := fun i => .int (L.getD i 0)) (fun i ρ => ∃ (A : List Int) (x6 x7 x8 : Option T), ρ = [some (.v (trD C n as)), some (.v (.int p)), some (.v (.lst (waysD n as))), some (.dic (seenT (S ++ A))), some (.v (.lst (L.map D.int))), some (.lst ((A.map D.int).map T.v)), x6, x7, x8] ∧ Mid n as p S A (fun a => a.1 ∈ L.take i)) g
            (ρ1 := [some (.v (trD C n as)), some (.v (.int p)), some (.v (.lst (waysD n as))), some (.dic (seenT S)), some (.v (.lst (L.map D.int))), some (.lst []), x6, x7, x8])
            (Iter.to (it_list (ds := L.map D.int) ?_) (by simp) (fun i hi => by simp [List.getD_eq_getElem?_getD, hi])) ?_ ?_ ?_)
          · exact ev_varL 4
          · refine ⟨[], x6, x7, x8, by rw [List.append_nil]; rfl, ⟨by simpa using lv.nd, by simpa using lv.re, fun a _ h => by simp at h⟩⟩
          · rintro i ρ hi ⟨A, y6, y7, y8, rfl, md⟩
            have hh : L.getD i 0 = L[i] := by simp [List.getD_eq_getElem?_getD, hi]
            have hin : L[i] ∈ S := lv.sub _ (List.getElem_mem hi)
            obtain ⟨r0, r1⟩ := (lv.re _ hin).range ok h0 h1
            rw [hh]
            generalize hx : L[i] = x at *
            refine ⟨[some (.v (trD C n as)), some (.v (.int p)), some (.v (.lst (waysD n as))), some (.dic (seenT (S ++ A))), some (.v (.lst (L.map D.int))), some (.lst ((A.map D.int).map T.v)), some (.v (.int x)), y7, y8], tg_name 6 g, ?_⟩
            refine s_cons (s_for (n := (stepsOf as x).length) (item := fun j => .tup [.int ((stepsOf as x).getD j default).2.2.1, .int ((stepsOf as x).getD j default).2.2.2]) (fun j ρ => ∃ (A' : List Int) (x7 x8 : Option T), ρ = [some (.v (trD C n as)), some (.v (.int p)), some (.v (.lst (waysD n as))), some (.dic (seenT (S ++ A'))), some (.v (.lst (L.map D.int))), some (.lst ((A'.map D.int).map T.v)), some (.v (.int x)), x7, x8] ∧ Mid n as p S A' (fun a => a.1 ∈ L.take i ∨ a ∈ (stepsOf as x).take j)) g
              (ρ1 := [some (.v (trD C n as)), some (.v (.int p)), some (.v (.lst (waysD n as))), some (.dic (seenT (S ++ A))), some (.v (.lst (L.map D.int))), some (.lst ((A.map D.int).map T.v)), some (.v (.int x)), y7, y8])
              (Iter.to (it_values (kvs := wayD as x) (ev_ixL (ev_var 2) (ev_var 6) (way_at r0 r1))) (by simp [wayD]) (fun j hj => by simp [wayD, List.getD_eq_getElem?_getD, hj])) ?_ ?_ ?_)
            · exact ⟨A, y7, y8, rfl, ⟨md.nd, md.re, fun a ha h => md.cl a ha (by simpa using h)⟩⟩
            · rintro j ρ hj ⟨A', z7, z8, rfl, md'⟩
              have hb : (stepsOf as x).getD j default = (stepsOf as x)[j] := by simp [List.getD_eq_getElem?_getD, hj]
              have hbm : (stepsOf as x)[j] ∈ as ∧ (stepsOf as x)[j].1 = x := by
                have key : ∀ b ∈ stepsOf as x, b ∈ as ∧ b.1 = x := fun b hb => by
                  unfold stepsOf at hb
                  rw [List.mem_filter] at hb
                  exact ⟨hb.1, by simpa using hb.2⟩
                exact key _ (List.getElem_mem hj)
              have htk : (stepsOf as x).take (j + 1) = (stepsOf as x).take j ++ [(stepsOf as x)[j]] := List.take_succ_eq_append_getElem hj
              rw [hb, htk]
              generalize (stepsOf as x)[j] = b at *
              obtain ⟨hbm, hbx⟩ := hbm
              have hbr : Reach as p b.2.2.2 := Reach.step (lv.re x hin) hbm hbx
              refine ⟨[some (.v (trD C n as)), some (.v (.int p)), some (.v (.lst (waysD n as))), some (.dic (seenT (S ++ A'))), some (.v (.lst (L.map D.int))), some (.lst ((A'.map D.int).map T.v)), some (.v (.int x)), some (.v (.int b.2.2.1)), some (.v (.int b.2.2.2))], tg_tup g (tgs_cons (tg_name 7 g) (tgs_cons (tg_name 8 g) tgs_nil)) rfl, ?_⟩
              have l12' := Lev.len ok h0 h1 md'.nd md'.re
              refine s_cons (s_if (tv_dnotinO (k := .inl b.2.2.2) g.hu 3 (ev_var 8) rfl (.inl rfl)) (fun hn => ?_) fun hn => ?_)
              · rw [seen_get] at hn
                have hnew : b.2.2.2 ∉ S ++ A' := by simpa using hn
                refine s_cons (s_setD (k := .inl b.2.2.2) (kts := seenT (S ++ A')) 3 g.hu ev_bl (ev_var 8) rfl (.inl rfl) (seen_nd md'.nd) (by simp only [seenT, List.length_map]; omega) ?_)
                refine s_cons (s_append (ts := (A'.map D.int).map T.v) 5 (ev_var 8) rfl (.inl ⟨_, rfl⟩) rfl (.inl rfl) (by simp only [List.length_map]; rw [List.length_append] at l12'; omega) ?_)
                refine s_nil (s_nil ⟨A' ++ [b.2.2.2], some (.v (.int b.2.2.1)), some (.v (.int b.2.2.2)), ?_, ⟨?_, ?_, ?_⟩⟩)
                · have e1 : kput (seenT (S ++ A')) (.inl b.2.2.2) (.v (.bl true)) = seenT (S ++ (A' ++ [b.2.2.2])) := by rw [seen_put hnew, List.append_assoc]
                  have e2 : (A'.map D.int).map T.v ++ [T.v (.int b.2.2.2)] = ((A' ++ [b.2.2.2]).map D.int).map T.v := by simp
                  rw [← e1, ← e2]
                  rfl
                · rw [← List.append_assoc]
                  exact List.nodup_append.mpr ⟨md'.nd, by simp, fun y hy z hz e => by simp at hz; subst hz; subst e; exact hnew hy⟩
                · intro y hy
                  rw [← List.append_assoc] at hy
                  rcases List.mem_append.mp hy with h | h
                  · exact md'.re y h
                  · simp at h; subst h; exact hbr
                · intro a ha h
                  rw [← List.append_assoc]
                  rcases h with h | h
                  · exact List.mem_append_left _ (md'.cl a ha (.inl h))
                  · rcases List.mem_append.mp h with h | h
                    · exact List.mem_append_left _ (md'.cl a ha (.inr h))
                    · simp at h; subst h; simp
              · rw [seen_get] at hn
                have hold : b.2.2.2 ∈ S ++ A' := by
                  by_cases z : b.2.2.2 ∈ S ++ A'
                  · exact z
                  · rw [decide_eq_false z] at hn; cases hn
                refine s_nil (s_nil ⟨A', some (.v (.int b.2.2.1)), some (.v (.int b.2.2.2)), rfl, ⟨md'.nd, md'.re, ?_⟩⟩)
                intro a ha h
                rcases h with h | h
                · exact md'.cl a ha (.inl h)
                · rcases List.mem_append.mp h with h | h
                  · exact md'.cl a ha (.inr h)
                  · simp at h; subst h; exact hold
            · rintro ρ ⟨A', z7, z8, rfl, md'⟩
              refine s_nil ⟨A', _, _, _, rfl, ⟨md'.nd, md'.re, fun a ha h => md'.cl a ha ?_⟩⟩
              rw [List.take_length]
              rw [List.take_succ_eq_append_getElem hi, hx] at h
              rcases List.mem_append.mp h with h | h
              · exact .inl h
              · right
                unfold stepsOf
                rw [List.mem_filter]
                exact ⟨ha, by simpa using h⟩
          · rintro ρ ⟨A, y6, y7, y8, rfl, md⟩
            rw [List.take_length] at md
            exact s_cons (s_set 4 g (ev_varM 5 rfl) (s_nil ⟨A, y6, y7, y8, rfl, md⟩))
      · have hL : L = [] := by
          cases L with
          | nil => rfl
          | cons _ _ => simp at hemp
        subst hL
        have hall : ∀ x, x ∈ S ↔ Reach as p x := fun x => ⟨lv.re x, fun h => by
          induction h with
          | start => exact lv.st
          | step h ha e ih => exact lv.cl _ ha (by rw [e]; exact ih) (by simp)⟩
        have nd2 : ms.Nodup := up.imp fun {a b} h e => by omega
        have pm : ms.Perm S := (List.perm_ext_iff_of_nodup nd2 lv.nd).2 fun x => (hms x).trans (hall x).symm
        refine s_cons (s_ret (ev_tupleL (xs := ms.map D.int) (ev_sortedD (kvs := S.map fun x => (.inl x, .bl true)) (ks := S) (ms := ms) g.calm (eva_cons (ev_varF 3 rfl) eva_nil) ?_ ?_ (by omega) pm (up.imp fun {a b} h => Int.le_of_lt h) G.at) ?_ G.at) q)
        · rw [T.d_v, T.d_dic, seenT, List.map_map]
          simp [Function.comp_def, T.d_v]
        · simp [List.map_map, Function.comp_def]
        · left
          rw [show (ms.map fun n => T.v (.int n)) = (ms.map D.int).map T.v by rw [List.map_map]; rfl, lst_vd]
end
end Vl
end
section
set_option maxRecDepth 100000
/-! Wps: the words on things whose kind is seen. -/
namespace Vl
open PySem L2
section
variable {ds es : List D} {n i j : Int} {d x y : D} {w v : Str} {kvs : List (Key × D)} {k : D → Prop} {kT : T → Prop} {kB : Bool → Prop} {kL : List D → Prop} {l u : Option Int} {ρ : Rho} {kR : Rho → Prop} {gs : WGs} {g : WG} {p q : Bool}
theorem ixW_l : ixW (.lst ds) (.int n) k = ∃ d, atI ds n = some d ∧ k d := rfl
theorem ixW_t : ixW (.tup ds) (.int n) k = ∃ d, atI ds n = some d ∧ k d := rfl
theorem ixW_s : ixW (.str w) (.int n) k = (w.length ≤ 100000 ∧ ∃ c, atI w.cps.toList n = some c ∧ k (.str ⟨#[c]⟩)) := rfl
theorem slW_l : slW (.lst ds) l u kT = kT (.lst ((cutD ds l u).map T.v)) := rfl
theorem walkW_l : walkW (.lst ds) kL = kL ds := rfl
theorem walkW_t : walkW (.tup ds) kL = kL ds := rfl
theorem walkW_d : walkW (.dic kvs) kL = kL (kvs.map fun q => kD q.1) := rfl
theorem binW_ai : binW .Add (.int i) (.int j) kT = kT (.v (.int (i + j))) := rfl
theorem binW_al : binW .Add (.lst ds) (.lst es) kT = (ds.length + es.length ≤ 100000 ∧ kT (.lst ((ds ++ es).map T.v))) := rfl
theorem binW_s : binW .Sub (.int i) (.int j) kT = kT (.v (.int (i - j))) := rfl
theorem binW_m : binW .Mult (.int i) (.int j) kT = ((CMul i j ∨ CMulX i j) ∧ kT (.v (.int (i * j)))) := rfl
theorem binW_d : binW .FloorDiv (.int i) (.int j) kT = ((CDiv i j ∨ CDivW i j) ∧ kT (.v (.int (i / j)))) := rfl
theorem binW_r : binW .Mod (.int i) (.int j) kT = (0 < j ∧ kT (.v (.int (i % j)))) := rfl
theorem binW_p : binW .Pow (.int i) (.int j) kT = (CPow i j ∧ kT (.v (.int (i ^ j.toNat)))) := rfl
theorem ltW_i : ltW (.int i) (.int j) kB = kB (decide (i < j)) := rfl
theorem leW_i : leW (.int i) (.int j) kB = kB (decide (i ≤ j)) := rfl
theorem gtW_i : gtW (.int i) (.int j) kB = kB (decide (j < i)) := rfl
theorem geW_i : geW (.int i) (.int j) kB = kB (decide (j ≤ i)) := rfl
theorem eqW_i : eqW (.int i) (.int j) kB = kB (decide (i = j)) := rfl
theorem eqW_s : eqW (.str w) (.str v) kB = kB (decide (w = v)) := rfl
theorem isW_n : isW x .non kB = kB x.isN := by cases x <;> rfl
theorem inW_l : inW x (.lst ds) kB = (x.flat = true ∧ ds.all D.flat = true ∧ kB (ds.any (deq x))) := by cases x <;> rfl
theorem inW_t : inW x (.tup ds) kB = (x.flat = true ∧ ds.all D.flat = true ∧ kB (ds.any (deq x))) := by cases x <;> rfl
theorem inW_di : inW (.int i) (.dic kvs) kB = kB (kget kvs (.inl i)).isSome := rfl
theorem gTup_t : gTup gs (.tup ds) ρ kR = gs ds ρ kR := rfl
theorem gNil_n : gNil [] ρ kR = kR ρ := rfl
theorem gCons_c : gCons g gs (d :: ds) ρ kR = g d ρ fun ρ1 => gs ds ρ1 kR := rfl
theorem bLen_l : bLen [.lst ds] kT = (ds.length ≤ 1000000 ∧ kT (.v (.int ds.length))) := rfl
theorem bLen_t : bLen [.tup ds] kT = (ds.length ≤ 1000000 ∧ kT (.v (.int ds.length))) := rfl
theorem bAbs_i : bAbs [.int n] kT = kT (.v (.int (if n < 0 then -n else n))) := rfl
theorem bInt_i : bInt [.int n] kT = kT (.v (.int n)) := rfl
theorem bMax2_i : bMax2 [.int i, .int j] kT = kT (.v (.int (max i j))) := rfl
theorem bMin2_i : bMin2 [.int i, .int j] kT = kT (.v (.int (min i j))) := rfl
theorem bList_l : bList [.lst ds] kT = kT (.lst (ds.map T.v)) := rfl
theorem bList_t : bList [.tup ds] kT = kT (.lst (ds.map T.v)) := rfl
theorem bSum_l : bSum [.lst ds] kT = ∃ ns : List Int, ds = ns.map D.int ∧ kT (.v (.int ns.sum)) := rfl
theorem bSort_l : bSort [.lst ds] kT = ((∃ ns ms : List Int, ds = ns.map D.int ∧ ms.Perm ns ∧ ms.Pairwise (· ≤ ·) ∧ kT (.lst ((ms.map D.int).map T.v))) ∨ bSortS [.lst ds] kT ∨ bSortK [.lst ds] kT) := rfl
theorem ipW_a : ipW .Add (.int i) (.int j) k = k (.int (i + j)) := rfl
theorem isi_i : isiB "int" d = d.isInt := rfl
theorem isi_b : isiB "bool" d = d.isBl := rfl
section
variable {nm : String} {ad Cc : Addr} {fs : List (Str × D)} {kvt : List (List Key × D)}
end
theorem cmpW_lt : cmpW .Lt x y kB = ltW x y kB := rfl
theorem cmpW_le : cmpW .LtE x y kB = leW x y kB := rfl
theorem cmpW_gt : cmpW .Gt x y kB = gtW x y kB := rfl
theorem cmpW_ge : cmpW .GtE x y kB = geW x y kB := rfl
theorem cmpW_eq : cmpW .Eq x y kB = eqW x y kB := rfl
theorem cmpW_ne : cmpW .NotEq x y kB = eqW x y fun b => kB !b := rfl
theorem cmpW_is : cmpW .Is x y kB = isW x y kB := rfl
theorem cmpW_in : cmpW .In x y kB = inW x y kB := rfl
theorem cmpW_nin : cmpW .NotIn x y kB = inW x y fun b => kB !b := rfl
end
end Vl
end
section
set_option maxRecDepth 100000
/-! Wq1: an owned dict or list, lent to a def that only reads it. -/
namespace Vl
open PySem L2
mutual
/-- no dict in it (k), no list in it (not k) -/
def D.no (k : Bool) : D → Bool
  | .tup xs => D.noL k xs
  | .lst xs => k && D.noL k xs
  | .dic _ => false
  | .dit _ => false
  | .obj _ _ => false
  | _ => true
def D.noL (k : Bool) : List D → Bool
  | [] => true
  | x :: xs => D.no k x && D.noL k xs
end
theorem D.noL_all (k : Bool) : ∀ xs : List D, D.noL k xs = xs.all (D.no k)
  | [] => rfl
  | x :: xs => by rw [D.noL, D.noL_all k xs]; rfl
/-- q is all that is lent -/
structure Lent (k : Bool) (q : Addr) (F2 F3 : Hp) : Prop where
  at_ : ∃ u, F2 q = some u ∧ (if k then ∃ kvs, u = .dK kvs else ∃ xs, u = .lst xs)
  ne : ∀ a, a ≠ q → F3 a = F2 a
mutual
theorem Den.apart {K : PySem.W.Frag} {k : Bool} {q : Addr} {F2 F3 : Hp} (L : Lent k q F2 F3) : ∀ {v : V} {d : D}, D.no k d = true → Den K F2 v d → Den K F3 v d
  | _, _, _, .non => .non
  | _, _, _, .bl b => .bl b
  | _, _, _, .int i => .int i
  | _, _, _, .str x => .str x
  | _, _, _, .ty n => .ty n
  | _, _, _, .ref a => .ref a
  | _, _, h, .tup (a := a) h1 h2 => by
    rw [D.no] at h
    refine .tup ?_ (DenL.apart L h h2)
    rw [L.ne a fun e => ?_]; exact h1
    subst e
    obtain ⟨u, hu, hk⟩ := L.at_
    rw [h1] at hu
    cases hu
    cases k
    · obtain ⟨_, hk⟩ := hk; cases hk
    · obtain ⟨_, hk⟩ := hk; cases hk
  | _, _, h, .lst (a := a) h1 h2 => by
    rw [D.no, Bool.and_eq_true] at h
    obtain ⟨rfl, h⟩ := h
    have nq : ∀ u, F2 a = some u → (∀ kvs, u ≠ .dK kvs) → F3 a = some u := fun u e hne => by
      rw [L.ne a fun z => ?_]; exact e
      subst z
      obtain ⟨u', hu, hk⟩ := L.at_
      rw [e] at hu
      cases hu
      obtain ⟨kvs, hk⟩ := hk
      exact hne kvs hk
    refine .lst ?_ (DenL.apart L h h2)
    rcases h1 with (h1 | ⟨o, h1⟩) | h1
    · exact .inl (.inl (nq _ h1 fun _ e => by cases e))
    · exact .inl (.inr ⟨o, nq _ h1 fun _ e => by cases e⟩)
    · exact .inr h1
  | _, _, h, .dic _ _ _ => by rw [D.no] at h; cases h
  | _, _, h, .dit _ _ _ => by rw [D.no] at h; cases h
  | _, _, h, .obj _ _ _ => by rw [D.no] at h; cases h
theorem DenL.apart {K : PySem.W.Frag} {k : Bool} {q : Addr} {F2 F3 : Hp} (L : Lent k q F2 F3) : ∀ {vs : List V} {ds : List D}, D.noL k ds = true → DenL K F2 vs ds → DenL K F3 vs ds
  | _, _, _, .nil => .nil
  | _, _, h, .cons h1 h2 => by
    rw [D.noL, Bool.and_eq_true] at h
    exact .cons (Den.apart L h.1 h1) (DenL.apart L h.2 h2)
end
/-- an answer that holds nothing of what was lent -/
def T.no (k : Bool) : T → Prop
  | .v d => D.no k d = true
  | .lst ts => ∃ ds : List D, ts = ds.map T.v ∧ D.noL k ds = true
  | _ => False
/-- what may be lent: a dict or a list of plain things -/
def lendO (k : Bool) : T → Prop
  | .dic kts => k = true ∧ ∃ kvs : List (Key × D), kts = kvs.map fun p => (p.1, T.v p.2)
  | .lst ts => k = false ∧ ∃ ds : List D, ts = ds.map T.v
  | _ => False
theorem owns_nil {K : PySem.W.Frag} {F H : Hp} : ∀ {ds : List D} {xs : List V} {A : List Addr}, OwnL K F H xs (ds.map T.v) A → A = []
  | [], _, _, .nil => rfl
  | _ :: _, _, _, .cons h t => by
    cases h with
    | v hd => rw [owns_nil t]; rfl
theorem lend_own {K : PySem.W.Frag} {F H : Hp} {k : Bool} {v : V} {t : T} {A : List Addr} (h : Own K F H v t A) (l : lendO k t) : ∃ q u, v = .ref q ∧ A = [q] ∧ H q = some u ∧ Mut (some u) ∧ (if k then ∃ kvs, u = .dK kvs else ∃ xs, u = .lst xs) := by
  cases t with
  | dic kts =>
    obtain ⟨rfl, kvs, rfl⟩ := l
    cases h with
    | dic hH hk ho =>
      have : ((kvs.map fun p => (p.1, T.v p.2)).map (·.2)) = (kvs.map (·.2)).map T.v := by simp [List.map_map, Function.comp_def]
      rw [this] at ho
      have := owns_nil ho
      subst this
      exact ⟨_, _, rfl, rfl, hH, trivial, _, rfl⟩
  | lst ts =>
    obtain ⟨rfl, ds, rfl⟩ := l
    cases h with
    | lst hH ho =>
      have := owns_nil ho
      subst this
      exact ⟨_, _, rfl, rfl, hH, trivial, _, rfl⟩
  | _ => exact l.elim
/-- the heap behind a call, unlocked at q -/
def UnlP (q : Addr) (H1 : Hp) (Q : Hp → Prop) : Prop := Q H1 ∨ ∃ o u, H1 q = some (.frz o u) ∧ Q (upd H1 q u)
theorem pe_unl {X : Cx} {e : Expr} {t : TE} (h : PE X e t) : PE X e (fun σ H Q => ∃ q u0, H q = some u0 ∧ Mut (some u0) ∧ t σ H fun v H1 => UnlP q H1 (Q v)) := ⟨fun pins s σ H Q I ⟨a, u0, h1, mu, hw⟩ => thn (h.run pins s σ H _ I hw) fun v s1 ⟨x, H1, I1, r, q⟩ => by
  rcases q with q | ⟨o, u, h2, q⟩
  · exact ⟨x, H1, I1, r, q⟩
  · exact ⟨x, _, I1.unlock h2 (I.nofrz h1 mu), r, q⟩⟩
section
variable {K : PySem.W.Frag} {B F0 : Hp} {ρ st : Rho} {σ vst : St} {H : Hp} {i : Nat} {t : T} {k : Bool}
/-- the slot i is lent: what the callee sees, and how it comes back -/
theorem Rl.lend {es : List D} {us : List V} (h : Rl K B F0 ((es.map fun d => some (T.v d)) ++ (st ++ ρ)) (us.map some ++ (vst ++ σ)) H) (hl2 : us.length = es.length) (hl : vst.length = st.length) (e : ρ[i]? = some (some t)) (l : lendO k t) :
    ∃ (q : Addr) (F' : Hp), σ[i]? = some (some (.ref q)) ∧ DenL K F' us es ∧ Den K F' (.ref q) t.d ∧
      (∀ (ds : List D) (vs : List V), DenL K F' vs ds → Rl K H F' ((ds.map T.v).map some) (vs.map some) H) ∧
      ∀ (ρ2 : Rho) (σ2 : St) (r : T) (v : V) (H' : Hp) (Q : Hp → Prop), Rl K H F' (some r :: ρ2) (some v :: σ2) H' → r.no k → (∀ H'', Rl K B F0 (some r :: (st ++ ρ)) (some v :: (vst ++ σ)) H'' → Q H'') → UnlP q H' Q := by
  obtain ⟨F, A, e0, e1, e2, dm, o, nd, fr⟩ := h
  obtain ⟨A0, A', rfl, o0, o'⟩ := o.split (by simpa using hl2)
  obtain ⟨rfl, hes⟩ := OwnS.allv o0
  obtain ⟨A1, A2, rfl, o1, o2⟩ := id (o'.split hl)
  obtain ⟨v0, B1, B2, B3, e3, rfl, o3, _, _⟩ := o2.at e
  obtain ⟨q, u, rfl, rfl, hq, mu, hk⟩ := lend_own o3 l
  have hA : q ∈ ([] : List Addr) ++ (A1 ++ (B1 ++ ([q] ++ B3))) := by simp
  obtain ⟨Fq, Bq⟩ := fr q hA
  classical
  let F' : Hp := fun a => if a = q then some u else F a
  have m1 : F' q = some u := if_pos rfl
  have m2 : ∀ a, a ≠ q → F' a = F a := fun a ha => if_neg ha
  have eF : Same F F' := fun a w z => by
    by_cases ha : a = q
    · subst ha; rw [Fq] at z; cases z
    · rw [m2 a ha]; exact z
  have eH : Sub F' H := fun a w z => by
    by_cases ha : a = q
    · subst ha; rw [m1] at z; cases z; exact .inl hq
    · rw [m2 a ha] at z; exact e1 a w z
  have hd : Den K F' (.ref q) t.d := o3.den eF fun a ha w z => by
    have : a = q := by simpa using ha
    subst this
    rw [hq] at z; cases z; exact m1
  refine ⟨q, F', e3, hes.mono eF, hd, fun ds vs hds => ?_, fun ρ2 σ2 r v H' Q hR hno hQ => ?_⟩
  · refine ⟨F', [], Same.refl _, eH, fun _ _ z => .inl z, fun a w z => .inl ⟨w, z⟩, ?_, List.nodup_nil, fun a ha => by cases ha⟩
    exact OwnS.ofL (OwnL.ofDen (H := H) hds)
  obtain ⟨F2, Ar, f0, f1, f2, fdm, fo, fnd, ffr⟩ := hR
  cases fo with
  | @cons _ _ _ _ C1 C2 c1 c2 =>
    have F2q : F2 q = some u := f0 q u m1
    have HA : ∀ a, a ∈ A1 ++ (B1 ++ ([q] ++ B3)) → ∃ w, H a = some w := fun a ha => o'.there a ha
    let F3 : Hp := fun a => if a = q then none else F2 a
    have n1 : F3 q = none := if_pos rfl
    have n2 : ∀ a, a ≠ q → F3 a = F2 a := fun a ha => if_neg ha
    have LN : Lent k q F2 F3 := ⟨⟨u, F2q, hk⟩, n2⟩
    have F2A : ∀ a, a ∈ A1 ++ (B1 ++ ([q] ++ B3)) → a ≠ q → F2 a = none := fun a ha hne => none_of_ne fun w z => by
      rcases fdm a w z with ⟨w', z'⟩ | z'
      · rw [m2 a hne, (fr a (by simpa using ha)).1] at z'; cases z'
      · obtain ⟨w', hw'⟩ := HA a ha
        rw [z'] at hw'; cases hw'
    have C1q : ∀ a ∈ C1, a ≠ q := fun a ha z => by
      have := (ffr a (by simp [ha])).2
      rw [z, hq] at this; cases this
    have fin : ∀ H'', H'' q = some u → (∀ a, a ≠ q → H'' a = H' a) → Rl K B F0 (some r :: (st ++ ρ)) (some v :: (vst ++ σ)) H'' := fun H'' g1 g2 => by
      have s1 : Same F F3 := fun a w z => by
        have hne : a ≠ q := fun z' => by subst z'; rw [Fq] at z; cases z
        rw [n2 a hne]
        exact f0 a w (by rw [m2 a hne]; exact z)
      have b2 : Bas B F2 H' := bas_tr f0 (e2.mono eF) f2
      have oR : Own K F3 H'' v r C1 := by
        have key : ∀ {v : V} {d : D}, D.no k d = true → Den K F2 v d → Den K F3 v d := fun hn hd => Den.apart LN hn hd
        cases r with
        | v d =>
          cases c1 with
          | v hd => exact .v (key hno hd)
        | lst ts =>
          obtain ⟨ds, rfl, hn⟩ := hno
          cases c1 with
          | lst hH ho =>
            have := owns_nil ho
            subst this
            refine .lst ?_ (OwnL.ofDen (DenL.apart LN hn (owns_den ho)))
            rw [g2 _ (C1q _ (by simp))]; exact hH
        | _ => exact hno.elim
      refine ⟨F3, C1 ++ (A1 ++ (B1 ++ ([q] ++ B3))), e0.trans s1, fun a w z => ?_, fun a w z => ?_, fun a w z => ?_, .cons oR (o'.mono s1 fun a ha w z => ?_), List.nodup_append.mpr ⟨(List.nodup_append.mp fnd).1, by simpa using nd, fun a ha b hb z => ?_⟩, fun a ha => ?_⟩
      · have hne : a ≠ q := fun z' => by subst z'; rw [n1] at z; cases z
        rw [n2 a hne] at z
        rw [g2 a hne]
        rcases f1 a w z with y | ⟨o, kvs, y1, y2⟩
        · exact .inl y
        · exact .inr ⟨o, kvs, y1, by rw [g2 a hne]; exact y2⟩
      · have hne : a ≠ q := fun z' => by subst z'; rw [Bq] at z; cases z
        rw [g2 a hne, n2 a hne]
        rcases b2 a w z with y | ⟨y0, o, kvs, y1, y2⟩
        · exact .inl y
        · exact .inr ⟨y0, o, kvs, y1, by rw [g2 a hne]; exact y2⟩
      · have hne : a ≠ q := fun z' => by subst z'; rw [n1] at z; cases z
        rw [n2 a hne] at z
        rcases fdm a w z with ⟨w', y⟩ | y
        · rw [m2 a hne] at y; exact dm a w' y
        · exact .inr (e2.free y)
      · by_cases hne : a = q
        · subst hne; rw [hq] at z; cases z; exact g1
        · rw [g2 a hne]
          rcases f2 a w z with y | ⟨y, _⟩
          · exact y
          · rw [F2A a ha hne] at y; cases y
      · subst z
        obtain ⟨w', hw'⟩ := HA a hb
        have := (ffr a (by simp [ha])).2
        rw [hw'] at this; cases this
      · rcases List.mem_append.mp ha with ha | ha
        · have := ffr a (by simp [ha])
          exact ⟨by rw [n2 a (C1q a ha)]; exact this.1, e2.free this.2⟩
        · refine ⟨?_, (fr a (by simpa using ha)).2⟩
          by_cases hne : a = q
          · subst hne; exact n1
          · rw [n2 a hne]; exact F2A a ha hne
    rcases f2 q u hq with y | ⟨_, o, kvs, y1, y2⟩
    · exact .inl (hQ H' (fin H' y fun a _ => rfl))
    · exact .inr ⟨o, u, y2, hQ _ (fin _ upd_same fun a ha => upd_ne ha)⟩
end
/-- dicts of plain things -/
def vK (kvs : List (Key × D)) : List (Key × T) := kvs.map fun p => (p.1, T.v p.2)
theorem dic_vd (kvs : List (Key × D)) : (T.dic (vK kvs)).d = .dic kvs := by
  rw [T.d_dic, vK, List.map_map]
  congr 1
  refine (List.map_congr_left fun p _ => ?_).trans (List.map_id kvs)
  simp [T.d_v]
theorem lendO_d (kvs : List (Key × D)) : lendO true (.dic (vK kvs)) = True := eq_true ⟨rfl, kvs, rfl⟩
theorem lendO_l (ds : List D) : lendO false (.lst (ds.map T.v)) = True := eq_true ⟨rfl, ds, rfl⟩
theorem Tno_l {k : Bool} {ds : List D} (h : D.noL k ds = true) : T.no k (.lst (ds.map T.v)) := ⟨ds, rfl, h⟩
/-- the arguments, the lent ones left out -/
inductive LendM (v0 : V) : List (Option D) → List V → List D → List V → Prop
  | nil : LendM v0 [] [] [] []
  | cons {o : List (Option D)} {vs us : List V} {es : List D} {d : D} {v : V} : LendM v0 o vs es us → LendM v0 (some d :: o) (v :: vs) (d :: es) (v :: us)
  | lend {o : List (Option D)} {vs us : List V} {es : List D} : LendM v0 o vs es us → LendM v0 (none :: o) (v0 :: vs) es us
theorem LendM.len {v0 : V} : ∀ {o : List (Option D)} {vs us : List V} {es : List D}, LendM v0 o vs es us → vs.length = o.length ∧ us.length = es.length
  | _, _, _, _, .nil => ⟨rfl, rfl⟩
  | _, _, _, _, .cons h => by obtain ⟨h1, h2⟩ := h.len; simp [h1, h2]
  | _, _, _, _, .lend h => by obtain ⟨h1, h2⟩ := h.len; simp [h1, h2]
theorem LendM.den {K : PySem.W.Frag} {F : Hp} {v0 : V} {dl : D} (h0 : Den K F v0 dl) : ∀ {o : List (Option D)} {vs us : List V} {es : List D}, LendM v0 o vs es us → DenL K F us es → DenL K F vs (o.map fun x => x.getD dl)
  | _, _, _, _, .nil, _ => .nil
  | _, _, _, _, .cons h, .cons g1 g2 => .cons g1 (LendM.den h0 h g2)
  | _, _, _, _, .lend h, g => .cons h0 (LendM.den h0 h g)
abbrev WAL := Rho → (List (Option D) → Rho → Prop) → EX → Prop
def AvL (X : Cx) (i : Nat) (es : List Expr) (ρ : Rho) (Φ : List (Option D) → Rho → Prop) (Ξ : EX) : Prop :=
  ∀ (B F0 : Hp) (st : Rho) (vst σ : St) (H : Hp) (Q : List V → Hp → Prop) (Wx : WX) (v0 : V), σ[i]? = some (some v0) → Takes X Wx → vst.length = st.length → Rl X.K B F0 (st ++ ρ) (vst ++ σ) H →
    (∀ o ρ1 vs ds us H', Φ o ρ1 → LendM v0 o vs ds us → Rl X.K B F0 ((ds.map fun d => some (T.v d)) ++ (st ++ ρ1)) (us.map some ++ (vst ++ σ)) H' → Q vs H') →
    (∀ x ρ1 cls d F H', Ξ x ρ1 → RlF X.K B F0 F (st ++ ρ1) (vst ++ σ) H' → XDen X.K F x cls d → Wx cls d σ H') → tA X es σ H Q
def RfAL (X : Cx) (i : Nat) (es : List Expr) (w : WAL) : Prop := ∀ ρ Φ Ξ, w ρ Φ Ξ → AvL X i es ρ Φ Ξ
def alNil : WAL := fun ρ Φ _ => Φ [] ρ
def alCons (a : WE) (as : WAL) : WAL := fun ρ Φ Ξ => a ρ (fun r ρ1 => as ρ1 (fun ds ρ2 => Φ (some r.d :: ds) ρ2) Ξ) Ξ
def alLend (as : WAL) : WAL := fun ρ Φ Ξ => as ρ (fun ds ρ2 => Φ (none :: ds) ρ2) Ξ
section
variable {X : Cx} {e a : Expr} {es : List Expr} {wa : WE} {va : WAL} {pos p : Pos} {i : Nat} {xa : Str}
theorem ral_nil : RfAL X i [] alNil := fun ρ Φ Ξ h B F0 st vst σ H Q Wx v0 hv tk hl R k kx => ⟨_, pa_nil, k [] ρ [] [] [] H h .nil R⟩
theorem ral_cons (ha : RfE X a wa) (hr : RfAL X i es va) (hs : starEach (a :: es) X.env = (false, eval a X.env) :: starEach es X.env := by rfl) : RfAL X i (a :: es) (alCons wa va) := fun ρ Φ Ξ h B F0 st vst σ H Q Wx v0 hv tk hl R k kx =>
  ⟨_, pa_cons (pe_u X a) (pa_u X es) hs, ha _ _ _ h B F0 st vst σ H _ Wx tk hl R (fun r ρ1 v H1 h1 R1 => hr _ _ _ h1 B F0 (some (.v r.d) :: st) (some v :: vst) σ H1 _ Wx v0 hv tk (sl1 hl) (Rl.frz1 R1) (fun o ρ2 vs ds us H2 h2 m R2 => by
    refine k _ ρ2 (v :: vs) (r.d :: ds) (v :: us) H2 h2 (.cons m) ?_
    have l2 := m.len.2
    exact Rl.swap (ρ1 := ds.map fun d => some (T.v d)) (σ1 := us.map some) (ρ2 := [some (.v r.d)]) (σ2 := [some v]) (by simp [l2]) rfl R2)
    (fun x ρ1 cls d F H' hx RF xd => kx x ρ1 cls d F H' hx RF.drop' xd)) kx⟩
theorem ral_lend (hr : RfAL X i es va) (hN : X.N[i]? = some xa := by rfl) (hv : Vis X.env.scope xa := by first | exact Or.inl rfl | exact Or.inr (Or.inl rfl) | exact Or.inr (Or.inr rfl)) (hd1 : (xa == ("__debug__" : Str)) = false := by decide) (hcd : (xa == ("__classdict__" : Str)) = false := by decide)
    (hs : starEach (.Name xa p :: es) X.env = (false, eval (.Name xa p) X.env) :: starEach es X.env := by rfl) : RfAL X i (.Name xa p :: es) (alLend va) := fun ρ Φ Ξ h B F0 st vst σ H Q Wx v0 hv0 tk hl R k kx =>
  ⟨_, pa_cons (pe_var hN hv hd1 hcd) (pa_u X es) hs, v0, hv0, hr _ _ _ h B F0 st vst σ H _ Wx v0 hv0 tk hl R (fun o ρ2 vs ds us H2 h2 m R2 => k _ ρ2 (v0 :: vs) ds us H2 h2 (.lend m) R2) kx⟩
def wCallL (S : Sp) (k : Bool) (i : Nat) (as : WAL) : WE := fun ρ Φ Ξ => (∃ t, slot ρ i = some t ∧ lendO k t) ∧ as ρ (fun o ρ1 => ∃ t, slot ρ1 i = some t ∧ lendO k t ∧ S (o.map fun x => x.getD t.d) (fun r => r.no k ∧ Φ r ρ1) (fun _ => False)) Ξ
theorem rf_callL {n : Nat} {f : Str} {S : Sp} {k : Bool} (i : Nat) (Fd : Fn X.prog X.w X.K X.mg X.base n f (prOf S)) (hr : Room n X.A) (ha : RfAL X i (e :: es) va) (hg : Gl X f := by rfl) (hdb : (f == ("__debug__" : Str)) = false := by decide)
    (he : starEach (e :: es) X.env = (false, eval e X.env) :: starEach es X.env := by rfl) (hpl : (backTo pos (starEach es X.env)).any (·.1) = false := by rfl) : RfE X (.Call (.Name f p) (e :: es) [] pos) (wCallL S k i va) := by
  obtain ⟨fa, fd, ps, F, hm, hk, hb⟩ := Fd
  refine fun ρ Φ Ξ h B F0 st vst σ H Q Wx tk hl R0 kk kx => ⟨_, pe_unl (pe_callS F hr hg hm hk hb passE0 (pa_u X (e :: es)) hdb he hpl), ?_⟩
  obtain ⟨⟨t0, hs0, hl0⟩, h⟩ := h
  obtain ⟨v0, F0', A0, hv0, ow, _, _⟩ := R0.slot hl (slot_get hs0)
  obtain ⟨q, u0, rfl, _, hq0, mu, _⟩ := lend_own ow hl0
  refine ⟨q, u0, hq0, mu, ha _ _ _ h B F0 st vst σ H _ Wx _ hv0 tk hl R0 (fun o ρ1 vs ds us H1 h1 m R1 => ?_) kx⟩
  obtain ⟨t, hs, hlo, hS⟩ := h1
  obtain ⟨q', F', hv1, hdes, hd, mk, back⟩ := R1.lend m.len.2 hl (slot_get hs) hlo
  rw [hv0] at hv1
  cases hv1
  have hden := m.den hd hdes
  refine ⟨H1, F', (o.map fun x => x.getD t.d).map T.v, fun r _ => r.no k ∧ Φ r ρ1, fun _ => False, by simp [m.len.1], mk _ _ hden, ⟨_, rfl, hS⟩, fun r' ts' v H' e h => ?_, fun _ _ _ _ _ h _ _ => h.elim⟩
  exact back _ _ r' v H' _ h e.1 fun H'' h'' => kk r' ρ1 v H'' e.2 h''
end
end Vl
end
section
set_option maxRecDepth 100000
/-! Wq2: dict comprehensions, del d[k], in / len of an owned dict. -/
namespace Vl
open PySem L2
section
variable {α β : Type}
def kdrop (kvs : List (Key × α)) (k : Key) : List (Key × α) := kvs.filter fun p => decide (p.1 ≠ k)
theorem kdrop_keys : ∀ {xs : List (Key × α)} {ys : List (Key × β)} {k : Key}, xs.map (·.1) = ys.map (·.1) → (kdrop xs k).map (·.1) = (kdrop ys k).map (·.1)
  | [], [], _, _ => rfl
  | [], _ :: _, _, h => by simp at h
  | _ :: _, [], _, h => by simp at h
  | p :: xs, q :: ys, k, h => by
    rw [List.map_cons, List.map_cons, List.cons.injEq] at h
    have ih := kdrop_keys (k := k) h.2
    unfold kdrop at ih ⊢
    by_cases e : q.1 = k
    · rw [List.filter_cons_of_neg (by simp [h.1, e]), List.filter_cons_of_neg (by simp [e])]; exact ih
    · rw [List.filter_cons_of_pos (by simp [h.1, e]), List.filter_cons_of_pos (by simp [e]), List.map_cons, List.map_cons, ih, h.1]
end
section
variable {K : PySem.W.Frag} {B F0 F F' H H' : Hp} {ρ ρ' st : Rho} {σ σ' vst : St} {v y : V} {d : D} {t t1 r u u' : T} {i j : Nat} {kvs : List (Key × T)}
theorem OwnL.kdrop : ∀ {xs : List (Key × V)} {kvs : List (Key × T)} {k : Key} {A : List Addr}, OwnL K F H (xs.map (·.2)) (kvs.map (·.2)) A → xs.map (·.1) = kvs.map (·.1) → ∃ A', OwnL K F H ((kdrop xs k).map (·.2)) ((kdrop kvs k).map (·.2)) A' ∧ Less A' A
  | [], [], _, _, h, _ => ⟨_, h, Less.refl _⟩
  | [], _ :: _, _, _, _, hk => by simp at hk
  | _ :: _, [], _, _, _, hk => by simp at hk
  | p :: xs, q :: kvs, k, _, .cons (A := A) (B := C) h1 h2, hk => by
    rw [List.map_cons, List.map_cons, List.cons.injEq] at hk
    obtain ⟨A', o, l⟩ := OwnL.kdrop (k := k) h2 hk.2
    unfold Vl.kdrop at o ⊢
    by_cases e : q.1 = k
    · rw [List.filter_cons_of_neg (by simp [hk.1, e]), List.filter_cons_of_neg (by simp [e])]
      exact ⟨A', o, l.trans (Less.of_sub (List.sublist_append_right _ _))⟩
    · rw [List.filter_cons_of_pos (by simp [hk.1, e]), List.filter_cons_of_pos (by simp [e])]
      exact ⟨A ++ A', .cons h1 o, (Less.refl A).app l⟩
/-- del d[k], d the owned dict of slot i -/
theorem Rl.delD {k : Key} (h : Rl K B F0 ρ σ H) (hi : ρ[i]? = some (some t1)) (ht : t1 = .dic kvs ∨ ∃ a, t1 = .at_ a (.dic kvs)) :
    ∃ (a : Addr) (xs : List (Key × V)), σ[i]? = some (some (.ref a)) ∧ H a = some (.dK xs) ∧ xs.map (·.1) = kvs.map (·.1) ∧ Rl K B F0 (ρ.set i (some (reT t1 (.dic (kdrop kvs k))))) σ (upd H a (.dK (dropK xs k))) := by
  have h' : Rl K B F0 (([] : List T).map some ++ ρ) (([] : List V).map some ++ σ) H := h
  obtain ⟨a, o, vs, e1, e2, ⟨xs, e3, e4, e5⟩, _, _, k'⟩ := h'.writeG (fun o vs => ∃ xs : List (Key × V), o = .dK xs ∧ xs.map (·.1) = kvs.map (·.1) ∧ vs = xs.map (·.2)) (i := i) (t := .dic kvs) (ts := kvs.map (·.2)) rfl hi ht (fun _ _ e => by cases e) (fun {F H v A} ow => by
    cases ow with
    | dic z1 z2 z3 => exact ⟨_, _, _, _, rfl, rfl, z1, z3, _, rfl, z2, rfl⟩)
  subst e3 e5
  refine ⟨a, xs, e1, e2, e4, ?_⟩
  exact k' _ ((kdrop xs k).map (·.2)) ((kdrop kvs k).map (·.2)) (.dic (kdrop kvs k)) (fun F H' A' e o => .dic e (kdrop_keys e4) o) fun F H' A C o1 o2 => by
    cases o2
    obtain ⟨A', o5, l⟩ := o1.kdrop (k := k) e4
    exact ⟨A', o5, by simpa using l⟩
end
/-- what the turns of a dict comprehension have to do -/
def dcP (vs : List Nat) (tg : WG) (c : WT) (ke ve : WE) (ds : List D) (ρ1 : Rho) (Φ : T → Rho → Prop) : Prop :=
  ds.length ≤ 100000 ∧ ∃ I : List D → List (Key × T) → Rho → Prop, I [] [] (wipeR ρ1 vs) ∧
    (∀ pre d post acc ρ', ds = pre ++ d :: post → I pre acc ρ' → tg d ρ' fun ρ2 => c ρ2 (fun b ρ3 => (b = true → ke ρ3 (fun rk ρ4 => ∃ key, rk = .v (kD key) ∧ ve ρ4 (fun r ρ5 => I (pre ++ [d]) (kput acc key r) (wipeR ρ5 vs)) EX0) EX0) ∧ (b = false → I (pre ++ [d]) acc (wipeR ρ3 vs))) EX0) ∧
    ∀ acc ρ', I ds acc ρ' → Φ (.dic acc) (restR ρ1 ρ' vs)
def wDc (vs : List Nat) (it : WI) (tg : WG) (c : WT) (ke ve : WE) : WE := fun ρ Φ Ξ => it ρ (fun ds ρ1 => dcP vs tg c ke ve ds ρ1 Φ) Ξ
theorem kput_nodup {α : Type} {xs : List (Key × α)} {k : Key} {x : α} (h : (xs.map (·.1)).Nodup) : ((kput xs k x).map (·.1)).Nodup := by
  unfold kput
  cases e : kix xs k with
  | none =>
    simp only [List.map_append, List.map_cons, List.map_nil]
    refine List.nodup_append.mpr ⟨h, by simp, fun a ha b hb => ?_⟩
    simp at hb
    subst hb
    rintro rfl
    unfold kix at e
    rw [List.findIdx?_eq_none_iff] at e
    obtain ⟨p, hp, rfl⟩ := List.mem_map.mp ha
    simpa using e p hp
  | some j =>
    obtain ⟨hj, hk⟩ := kix_some e
    simp only [List.map_set]
    have hlt : j < (xs.map (·.1)).length := by simpa using hj
    rw [List.getElem?_eq_getElem hlt] at hk
    have : (xs.map (·.1)).set j k = xs.map (·.1) := by
      have hk' : (xs.map (·.1))[j] = k := by simpa using hk
      rw [← hk', List.set_getElem_self]
    rw [this]
    exact h
section
variable {X : Cx} {tg it elt c kx vx : Expr} {ifs : List Expr} {scope : Scope} {own : List (Str × Nat)} {ρ ρ1 : Rho} {wi : WI} {wg : WG} {wc : WT} {we wk wv wa wb : WE} {pos pos' p tpos : Pos} {vs : List Nat} {xa : Str} {a b : Expr}
theorem dc_runX {wiT : TI} {Φ : T → Rho → Prop} (own : List (Str × Nat)) (ht : ∀ s H C cl fp, RfK (X.blk s H scope (compEnvC scope cl C X.env) fp) (own.map Prod.snd) tg wg) (hts : ∀ s H C cl fp, RfTs (X.blk s H scope (compEnvC scope cl C X.env) fp) ifs wc) (hek : ∀ s H C cl fp, RfE (X.blk s H scope (compEnvC scope cl C X.env) fp) kx wk) (hev : ∀ s H C cl fp, RfE (X.blk s H scope (compEnvC scope cl C X.env) fp) vx wv)
    (B F0 : Hp) (st : Rho) (vst σ : St) (H : Hp) (Q : VK)
    (hw : ∀ Rk : It → Hp → Prop, (∀ ds ρ1 J B1 F1 H1, dcP (own.map Prod.snd) wg wc wk wv ds ρ1 Φ → Rl X.K B1 F1 (st ++ ρ1) (vst ++ σ) H1 → Turns X.K J B1 F1 ds.length (fun i => ds.getD i .non) → Back X.K B F0 B1 F1 → Rk J H1) → wiT σ H Rk)
    (hl : vst.length = st.length) (k : ∀ r ρ1 v H', Φ r ρ1 → Rl X.K B F0 (some r :: (st ++ ρ1)) (some v :: (vst ++ σ)) H' → Q v H') : tDc wiT (gBk X scope tg) (tBk X scope ifs) (eBk X scope kx) (eBk X scope vx) (own.map Prod.snd) σ H Q := by
  refine hw _ fun ds ρ1 J B1 F1 H1 hlc R1 Tn bk Dl hD => ?_
  obtain ⟨hz, I, h0, hs, hd⟩ := hlc
  obtain ⟨P, Pv, hp, R1s, unst⟩ := Rl.stash R1 hl (own.map Prod.snd)
  have hlp : (Pv ++ vst).length = (P ++ st).length := by simp [hp, hl]
  have R1w : Rl X.K B1 F1 ((P ++ st) ++ wipeR ρ1 (own.map Prod.snd)) ((Pv ++ vst) ++ wipe σ (own.map Prod.snd)) H1 := Rl.forgetN (st := P ++ st) (vst := Pv ++ vst) (by simpa [List.append_assoc] using R1s) hlp (own.map Prod.snd)
  have Rst : Rl X.K B1 F1 (some (T.dic []) :: ((P ++ st) ++ wipeR ρ1 (own.map Prod.snd))) (some (V.ref Dl) :: ((Pv ++ vst) ++ wipe σ (own.map Prod.snd))) (upd H1 Dl (.dK [])) := R1w.newOwn (ts := []) (vs := []) (o := .dK []) (t := .dic []) rfl hD fun F H' A hH ho => .dic (kvs := []) (ts := []) hH rfl ho
  refine ⟨fun i m H' => m = ds.length - i ∧ i ≤ ds.length ∧ ∃ acc ρ', I (ds.take i) acc ρ' ∧ acc.length ≤ i ∧ (acc.map (·.1)).Nodup ∧ Clean ρ' (own.map Prod.snd) ∧ Rl X.K B1 F1 (some (T.dic acc) :: ((P ++ st) ++ ρ')) (some (V.ref Dl) :: ((Pv ++ vst) ++ wipe σ (own.map Prod.snd))) H', ⟨ds.length, by omega, Nat.zero_le _, [], _, by simpa using h0, Nat.le_refl _, List.nodup_nil, wipeR_clean _ _, Rst⟩, ?_⟩
  rintro i m H' ⟨rfl, hle, acc, ρ', hI, hla, hnd, hcl, R'⟩
  have hls' : (some (V.ref Dl) :: (Pv ++ vst)).length = (some (T.dic acc) :: (P ++ st)).length := by simp [hp, hl]
  by_cases hlt : i < ds.length
  · obtain ⟨g1, g2⟩ := Tn.go B1 F1 i _ _ H' (Same.refl _) hlt R'
    have e1 : ds = ds.take i ++ ds[i] :: ds.drop (i + 1) := by rw [List.getElem_cons_drop, List.take_append_drop]
    have e2 : ds.getD i .non = ds[i] := by simp [List.getD_eq_getElem?_getD, hlt]
    have e3 : ds.take (i + 1) = ds.take i ++ [ds[i]] := List.take_succ_eq_append_getElem hlt
    refine .inr ⟨g1, fun H2 => ∃ acc ρ', I (ds.take (i + 1)) acc ρ' ∧ acc.length ≤ i + 1 ∧ (acc.map (·.1)).Nodup ∧ Clean ρ' (own.map Prod.snd) ∧ Rl X.K B1 F1 (some (T.dic acc) :: ((P ++ st) ++ ρ')) (some (V.ref Dl) :: ((Pv ++ vst) ++ wipe σ (own.map Prod.snd))) H2, fun H2 h => ⟨ds.length - (i + 1), by omega, rfl, by omega, h⟩, fun w H2 hy => ?_⟩
    have hturn := hs _ _ _ acc ρ' e1 hI
    have Rw := g2 w H2 hy
    rw [e2] at Rw
    rw [e3]
    intro s' Hs C cl fp
    obtain ⟨ρ2, htg, hturn⟩ := ht s' Hs C cl fp _ _ _ hturn
    refine htg B1 F1 (some (T.dic acc) :: (P ++ st)) (some (V.ref Dl) :: (Pv ++ vst)) (wipe σ (own.map Prod.snd)) H2 w _ hls' Rw fun σ2 H3 R2 wq => ?_
    have wq' : wipe σ2 (own.map Prod.snd) = wipe σ (own.map Prod.snd) := by
      rw [wq]
      have : ∀ (vs us : List Nat), (∀ x ∈ us, x ∈ vs) → wipe (wipe σ us) vs = wipe σ vs := by
        intro vs us
        induction us with
        | nil => intro _; rfl
        | cons u us ih =>
          intro h
          show wipe ((wipe σ us).set u none) vs = _
          rw [wipe_comm (h u (by simp)), ih fun x hx => h x (by simp [hx])]
      exact this _ _ fun x hx => hx
    refine ⟨wq', ?_⟩
    intro s2 Hs2 C2 cl2 fp2
    refine hts s2 Hs2 C2 cl2 fp2 _ _ hturn B1 F1 (some (T.dic acc) :: (P ++ st)) (some (V.ref Dl) :: (Pv ++ vst)) σ2 H3 _ hls' R2 fun bo ρ3 H4 hbo R3 => ?_
    cases bo with
    | true =>
      refine iteT ?_
      intro s3 Hs3 C3 cl3 fp3
      refine hek s3 Hs3 C3 cl3 fp3 _ _ _ (hbo.1 rfl) B1 F1 (some (T.dic acc) :: (P ++ st)) (some (V.ref Dl) :: (Pv ++ vst)) σ2 H4 _ _ takes_none5 hls' R3 (fun rk ρ4 y H5 hk R4 => ?_) fun _ _ _ _ _ _ e _ _ => e.elim
      obtain ⟨key, rfl, hvv⟩ := hk
      intro s4 Hs4 C4 cl4 fp4
      have hl5 : (some y :: some (V.ref Dl) :: (Pv ++ vst)).length = (some (T.v (kD key)) :: some (T.dic acc) :: (P ++ st)).length := by simp [hp, hl]
      refine hev s4 Hs4 C4 cl4 fp4 _ _ _ hvv B1 F1 (some (T.v (kD key)) :: some (T.dic acc) :: (P ++ st)) (some y :: some (V.ref Dl) :: (Pv ++ vst)) σ2 H5 _ _ takes_none5 hl5 R4 (fun r ρ5 z H6 hI' R5 => ?_) fun _ _ _ _ _ _ e _ _ => e.elim
      have R5' : Rl X.K B1 F1 (some r :: (some (T.v (kD key)) :: some (T.dic acc) :: (P ++ st) ++ ρ5)) (some z :: (some y :: some (V.ref Dl) :: (Pv ++ vst) ++ σ2)) H6 := R5
      have ey := kV_of R5'.drop
      obtain ⟨a, xs, e1', e2', e3', R6⟩ := Rl.putD (k := key) (i := 1) (t1 := .dic acc) (kvs := acc) R5' rfl (.inl rfl) hnd
      have ea : Dl = a := by
        have : (some (some (V.ref Dl)) : Option (Option V)) = some (some (.ref a)) := e1'
        cases this; rfl
      subst ea
      refine ⟨xs, key, ey, e2', by rw [e3', sizeLine_eq]; omega, kput acc key r, _, hI', Nat.le_trans kput_len (by omega), kput_nodup hnd, wipeR_clean _ _, ?_⟩
      have R7 : Rl X.K B1 F1 (some (T.dic (kput acc key r)) :: (P ++ st) ++ ρ5) (some (V.ref Dl) :: (Pv ++ vst) ++ σ2) _ := Rl.drop R6
      have R8 := Rl.forgetN (st := some (T.dic (kput acc key r)) :: (P ++ st)) (vst := some (V.ref Dl) :: (Pv ++ vst)) R7 (by simp [hp, hl]) (own.map Prod.snd)
      rw [wq'] at R8
      exact R8
    | false =>
      refine iteF ⟨acc, _, hbo.2 rfl, by omega, hnd, wipeR_clean _ _, ?_⟩
      have R6 := Rl.forgetN (st := some (T.dic acc) :: (P ++ st)) (vst := some (V.ref Dl) :: (Pv ++ vst)) R3 hls' (own.map Prod.snd)
      rw [wq'] at R6
      exact R6
  · have e : i = ds.length := by omega
    subst e
    rw [List.take_length] at hI
    have hΦ := hd acc ρ' hI
    refine .inl ⟨Tn.stop B1 F1 ds.length _ _ H' (Same.refl _) (Nat.le_refl _) R', k _ _ _ H' hΦ (bk.rl _ _ _ ?_)⟩
    have R7 := Rl.wipeOff (st := some (T.dic acc) :: (P ++ st)) (vst := some (V.ref Dl) :: (Pv ++ vst)) R' hls' hcl
    exact unst _ _ _ _ _ _ (by simpa [List.append_assoc] using R7)
/-- del d[b] -/
def sDelD (i : Nat) (b : WE) : WS := fun ρ Z => (∃ f, onD ρ i f) ∧ b ρ (fun s ρ2 => ∃ key : Key, s = .v (kD key) ∧ onD ρ2 i fun kts re => (kget kts key).isSome = true ∧ Z.nx (re (.dic (kdrop kts key)))) Z.ex
theorem kget_isSome {α β : Type} {xs : List (Key × α)} {ys : List (Key × β)} {k : Key} (h : xs.map (·.1) = ys.map (·.1)) : (kget xs k).isSome = (kget ys k).isSome := by
  have l := congrArg List.length h
  simp at l
  rw [kget_ix, kget_ix, kix_keys h]
  cases e : kix ys k with
  | none => rfl
  | some j =>
    obtain ⟨hj, _⟩ := kix_some e
    simp [hj, l]
theorem rs_delD {pa : Pos} (i : Nat) (hu : X.A.units + 64 < cLine) (hb : RfE X b wb) (hN : X.N[i]? = some xa := by rfl) (hv : Vis X.env.scope xa := by first | exact Or.inl rfl | exact Or.inr (Or.inl rfl) | exact Or.inr (Or.inr rfl)) (hd1 : (xa == ("__debug__" : Str)) = false := by decide) (hcd : (xa == ("__classdict__" : Str)) = false := by decide) :
    RfS1 X (.Delete [.Subscript (.Name xa pa) b tpos] pos) (sDelD i wb) := fun ρ Z h => by
  obtain ⟨⟨f, hf⟩, h⟩ := h
  obtain ⟨t0, ts0, hi0, ht0, _⟩ := onD_ok hf
  refine s1_of (ps_ddel (pe_var hN hv hd1 hcd) (pe_u X b)) fun B F0 σ H De Wx tk R m => ?_
  obtain ⟨w, _, _, e1, _⟩ := Rl.slot (st := []) (vst := []) R rfl hi0
  refine ⟨w, e1, hb _ _ _ h B F0 [] [] σ H _ Wx tk rfl R (fun s ρ2 q H2 g2 R2 => ?_) (fun x ρ1 cls d F H' hx RF xd => m.ex x ρ1 cls d F σ H' hx RF xd)⟩
  obtain ⟨key, rfl, g2⟩ := g2
  obtain ⟨t1, kts, hi, ht, hsm, hnx⟩ := onD_ok g2
  have ew := kV_of R2
  obtain ⟨a, xs, g1, g2, g3, R3⟩ := Rl.delD (k := key) (show Rl X.K B F0 ρ2 σ H2 from R2.drop) hi ht
  rw [e1] at g1
  cases g1
  exact ⟨a, xs, key, rfl, g2, ew, by rw [val_get, kget_isSome g3]; exact hsm, m.nx _ σ _ hnx R3⟩
theorem kdrop_vK {kvs : List (Key × D)} {k : Key} : kdrop (vK kvs) k = vK (kdrop kvs k) := by
  unfold kdrop vK
  rw [List.filter_map]
  rfl
theorem vK_keys {kvs : List (Key × D)} : (vK kvs).map (·.1) = kvs.map (·.1) := by simp [vK, List.map_map, Function.comp_def]
theorem kget_vK {kvs : List (Key × D)} {k : Key} : kget (vK kvs) k = (kget kvs k).map T.v := by
  unfold kget vK
  rw [List.find?_map]
  rw [Option.map_map, Option.map_map]
  rfl
end
/-! ### sum of a list or a tuple -/
section
variable {X : Cx}
theorem cr_sumT (hc : X.calm = true) : CallR X (.builtin "sum") (fun vs H Q => ∃ (a : Addr) (ns : List Int), vs = [V.ref a] ∧ SqT X.K H a (ns.map V.int) ∧ Q (.int ns.sum) H) := by
  intro pins s σ H vs us Q I r h
  obtain ⟨a, ns, rfl, hs, q⟩ := h
  obtain ⟨its, rv, hl, _⟩ := I.tuple hs
  rw [Vals.ref1 r]
  have hi := rv.ints
  obtain ⟨xs, e⟩ := hi.allInts.items
  have hn : numsOf (intItems xs).toList = ns := by rw [← e]; exact hi.numsOf
  rw [nums_intItems] at hn
  have hl2 : s.heap.IsTuple a its.toArray := hl
  rw [e] at hl2
  refine PySem.W.ktm_sumG (I.ok.hd hc) hl2 fun h' tk t' hk => ?_
  refine ⟨.int _, H, I.kept hk, ⟨_, rfl⟩, ?_⟩
  rw [preSum_eq, List.take_of_length_le (by simp), hn]
  exact q
theorem bSum_all (hc : X.calm = true) {ds : List D} {Φ : T → Prop} (h : bSum ds Φ) : CallX X (.builtin "sum") ds Φ := by
  unfold bSum at h
  split at h
  · exact bSum_ok hc (by unfold bSum; exact h) ⟨_, rfl⟩
  · obtain ⟨ns, rfl, h⟩ := h
    exact cx_plain (cr_sumT hc) (fun H vs Q hd k => by
      obtain ⟨v, rfl, hx⟩ := denl1 hd
      cases hx with
      | tup hq q => exact ⟨_, ns, rfl, by rw [← den_ints q]; exact SqT.of hq, k _ fun _ => .int _⟩) h
  · exact h.elim
theorem bSum_t {ds : List D} {kT : T → Prop} : bSum [.tup ds] kT = ∃ ns : List Int, ds = ns.map D.int ∧ kT (.v (.int ns.sum)) := rfl
end
theorem kput_fresh {α : Type} {kvs : List (Key × α)} {k : Key} {x : α} (h : k ∉ kvs.map (·.1)) : kput kvs k x = kvs ++ [(k, x)] := by
  unfold kput
  cases e : kix kvs k with
  | none => rfl
  | some j => exact absurd (List.mem_of_getElem? (kix_some e).2) h
theorem dcP_map {vs : List Nat} {tg : WG} {ke ve : WE} {ρ1 : Rho} {Φ : T → Rho → Prop} {α : Type} (xs : List α) (im : α → D) (kf : α → Key) (vf : α → D) (hz : xs.length ≤ 100000) (nd : (xs.map kf).Nodup)
    (hs : ∀ a ∈ xs, ∀ (P : Key → T → Rho → Prop), (∀ ρ', wipeR ρ' vs = wipeR ρ1 vs → P (kf a) (.v (vf a)) ρ') → tg (im a) (wipeR ρ1 vs) fun ρ2 => ke ρ2 (fun rk ρ4 => ∃ key, rk = .v (kD key) ∧ ve ρ4 (fun r ρ5 => P key r ρ5) EX0) EX0)
    (k : Φ (.dic (vK (xs.map fun a => (kf a, vf a)))) (restR ρ1 (wipeR ρ1 vs) vs)) : dcP vs tg tYes ke ve (xs.map im) ρ1 Φ := by
  refine ⟨by simpa using hz, fun pre acc ρ' => ρ' = wipeR ρ1 vs ∧ ∃ n, pre = (xs.take n).map im ∧ n ≤ xs.length ∧ acc = vK ((xs.take n).map fun a => (kf a, vf a)), ⟨rfl, 0, by simp [vK]⟩, ?_, ?_⟩
  · rintro pre d post acc ρ' e ⟨rfl, n, rfl, hn, rfl⟩
    have hlt : n < xs.length := by
      have := congrArg List.length e
      simp at this
      omega
    have ed : d = im xs[n] := by
      have := congrArg (fun l => l[n]?) e
      simp [List.getElem?_append, hlt] at this
      have h2 : min n xs.length = n := by omega
      rw [h2] at this
      simpa using this.symm
    subst ed
    have e3 : xs.take (n + 1) = xs.take n ++ [xs[n]] := List.take_succ_eq_append_getElem hlt
    have conv : ∀ {A B : Rho → Prop}, (∀ ρ, A ρ = B ρ) → ∀ {d ρ}, tg d ρ A → tg d ρ B := fun {A B} h {d ρ} h1 => by
      have : A = B := funext h
      rwa [← this]
    have fresh : kf xs[n] ∉ (vK ((xs.take n).map fun a => (kf a, vf a))).map (·.1) := by
      rw [vK_keys, List.map_map]
      intro hm
      have e4 : xs.map kf = (xs.take n).map kf ++ (kf xs[n] :: (xs.drop (n + 1)).map kf) := by
        conv => lhs; rw [← List.take_append_drop n xs, ← List.getElem_cons_drop hlt, List.map_append, List.map_cons]
      rw [e4, List.nodup_append] at nd
      exact nd.2.2 _ hm _ (by simp) rfl
    refine conv (fun ρ2 => ?_) (hs xs[n] (List.getElem_mem hlt) (fun key r ρ4 => wipeR ρ4 vs = wipeR ρ1 vs ∧ ∃ m, (xs.take n).map im ++ [im xs[n]] = (xs.take m).map im ∧ m ≤ xs.length ∧ kput (vK ((xs.take n).map fun a => (kf a, vf a))) key r = vK ((xs.take m).map fun a => (kf a, vf a))) (fun ρ4 h7 => ⟨h7, n + 1, by rw [e3, List.map_append]; rfl, hlt, by rw [kput_fresh fresh, e3, List.map_append]; unfold vK; rw [List.map_append]; rfl⟩))
    unfold tYes
    simp
  · rintro acc ρ' ⟨rfl, n, e, hn, rfl⟩
    have : n = xs.length := by
      have := congrArg List.length e
      simp at this
      omega
    subst this
    rw [List.take_length]
    exact k
end Vl
end
section
set_option maxRecDepth 100000
/-! Wq3: comparisons as tests. -/
namespace Vl
open PySem L2
section
variable {X : Cx} {e a b c : Expr} {ρ ρ1 : Rho} {Ξ : EX} {wa wb wc : WE} {pos p : Pos} {i : Nat} {xa : Str}
theorem op2_run {f : Value → Value → Sem Value} {Φ : T → Rho → Prop} (h : EvX X a ρ (fun r ρ1 => EvX X b ρ1 (fun s ρ2 => OpX X f r.d s.d fun t => Φ t ρ2) Ξ) Ξ) (B F0 : Hp) (st : Rho) (vst σ : St) (H : Hp) (Q : VK) (Wx : WX) (tk : Takes X Wx) (hl : vst.length = st.length) (R : Rl X.K B F0 (st ++ ρ) (vst ++ σ) H)
    (k : ∀ r ρ1 v H', Φ r ρ1 → Rl X.K B F0 (some r :: (st ++ ρ1)) (some v :: (vst ++ σ)) H' → Q v H') (kx : ∀ x ρ1 cls d F H', Ξ x ρ1 → RlF X.K B F0 F (st ++ ρ1) (vst ++ σ) H' → XDen X.K F x cls d → Wx cls d σ H') : tOp (fun v u H Q => ∃ q, OpR X f q ∧ q v u H Q) (tE X a) (tE X b) σ H Q :=
  h B F0 st vst σ H _ Wx tk hl R (fun r ρ1 v H1 hb R1 => hb B F0 (some r :: st) (some v :: vst) σ H1 _ Wx tk (sl1 hl) R1
    (fun s ρ2 u H2 hop R2 => hop B F0 (st ++ ρ2) (vst ++ σ) H2 v u Q (Rl.frz2 R2) fun t w H3 ht R3 => k t ρ2 w H3 ht R3) fun x ρ1 cls d F H' hx RF xd => kx x ρ1 cls d F H' hx RF.drop' xd) kx
theorem rt_cmp {op : CmpOp} (hu : X.A.units + 64 < cLine) (ha : RfE X a wa) (hb : RfE X b wb) (hm : behindInMarks op b = false := by first | exact nomark _ | rfl) : RfT X (.Compare a [op] [b] pos) (tVal (wCmp op wa wb)) := fun ρ Φ Ξ h B F0 st vst σ H Q Wx tk hl R k kx =>
  ⟨_, pt_cmpR opr_u (pe_u X a) (pe_u X b) hm, op2_run (f := compareOp op) (Φ := fun t ρ1 => ∃ c, t = .v (.bl c) ∧ Φ c ρ1) ((ha _ _ _ h).mono fun r ρ1 h1 => (hb _ _ _ h1).mono fun s ρ2 h2 => cmpW_ok hu h2) B F0 st vst σ H _ Wx tk hl R (fun r ρ1 v H1 h1 R1 => by
    obtain ⟨c, rfl, h2⟩ := h1
    exact ⟨c, R1.headB, k c ρ1 H1 h2 R1.drop⟩) kx⟩
/-- x in xs, as a test -/
theorem rt_inO_run {neg : Bool} {op : CmpOp} {i : Nat} (ho : OpR X (compareOp op) (rIn X.K neg)) (hN : X.N[i]? = some xa) (hv : Vis X.env.scope xa) (hd1 : (xa == ("__debug__" : Str)) = false) (hcd : (xa == ("__classdict__" : Str)) = false) (ha : RfE X a wa) (hm : behindInMarks op (.Name xa p) = false) :
    RfT X (.Compare a [op] [.Name xa p] pos) (tVal (wInO neg wa i)) := fun ρ Φ Ξ h B F0 st vst σ H Q Wx tk hl R k kx =>
  ⟨_, pt_cmpR ho (pe_u X a) (pe_var hN hv hd1 hcd) hm, ha _ _ _ h B F0 st vst σ H _ Wx tk hl R (fun r ρ1 v H1 h1 R1 => by
    obtain ⟨fl, ds, hs, fs, c0, hc0, h2⟩ := h1
    cases hc0
    have R2 := Rl.frz1 R1
    have hvd := R2.den
    obtain ⟨t1, hi⟩ : ∃ t1, ρ1[i]? = some (some t1) := by
      rcases hs with hs | ⟨q, hs⟩ | hs <;> exact ⟨_, slot_get hs⟩
    obtain ⟨w, F, A, e1, ow, eF, _⟩ := R2.drop.slot hl hi
    have own : ∀ {a : Addr} {A : List Addr}, Own X.K F H1 (.ref a) (.lst (ds.map T.v)) A → ∃ xs, SqL X.K H1 a xs ∧ DenL X.K F xs ds := fun o => by
      cases o with
      | lst hH hx => exact ⟨_, SqL.of hH, owns_den hx⟩
    have fin : ∃ a xs, w = .ref a ∧ SqL X.K H1 a xs ∧ DenL X.K F xs ds := by
      rcases hs with hs | ⟨q, hs⟩ | hs
      · rw [slot_get hs] at hi
        cases hi
        obtain ⟨a, xs, C, rfl, _, _, _⟩ := ow.lstI
        obtain ⟨xs, g1, g2⟩ := own ow
        exact ⟨a, xs, rfl, g1, g2⟩
      · rw [slot_get hs] at hi
        cases hi
        cases ow with
        | at_ ow =>
          obtain ⟨xs, g1, g2⟩ := own ow
          exact ⟨_, xs, rfl, g1, g2⟩
      · rw [slot_get hs] at hi
        cases hi
        cases ow with
        | v hd =>
          cases hd with
          | lst hq q => exact ⟨_, _, rfl, eF.sqL hq, q⟩
    obtain ⟨a', xs, rfl, hq, hx⟩ := fin
    obtain ⟨q1, q2⟩ := den_inV hvd fl (hx.sub eF) fs
    have e2 : inV v xs = ds.any (deq r.d) := by
      rw [q2, Bool.eq_iff_iff]
      simp [deq]
    refine ⟨_, e1, ⟨a', xs, rfl, .inl hq, (den_flat hvd hvd fl fl).1, q1, ?_⟩⟩
    rw [e2]
    exact ⟨_, rfl, k _ ρ1 H1 h2 R2.drop⟩) kx⟩
theorem rt_notinO (i : Nat) (ha : RfE X a wa) (hN : X.N[i]? = some xa := by rfl) (hv : Vis X.env.scope xa := by first | exact Or.inl rfl | exact Or.inr (Or.inl rfl) | exact Or.inr (Or.inr rfl)) (hd1 : (xa == ("__debug__" : Str)) = false := by decide) (hcd : (xa == ("__classdict__" : Str)) = false := by decide) (hm : behindInMarks .NotIn (.Name xa p) = false := by rfl) :
    RfT X (.Compare a [.NotIn] [.Name xa p] pos) (tVal (wInO true wa i)) := rt_inO_run op_notIn_seq hN hv hd1 hcd ha hm
end
end Vl
end
section
set_option maxRecDepth 100000
/-! Wq4: a dict comprehension stored to a local name on one line. -/
namespace Vl
open PySem L2
section
variable {X : Cx} {tg it elt c kx vx : Expr} {ifs : List Expr} {scope : Scope} {own : List (Str × Nat)} {ρ ρ1 : Rho} {wi : WI} {wg : WG} {wc : WT} {we wk wv wa wb : WE} {pos pos' p tpos spos py : Pos} {vs : List Nat} {y : Str} {j : Nat}
theorem ps_setDcV {wiT : TI} {g : TG} {tt : TT} {tk tv : TE} (hcm : X.calm = true) (hnd : X.N.Nodup) (hN : X.N[j]? = some y) (hyl : X.env.scope.names.lookup y = some .local)
    (hsw : swapsWith (.DictComp kx vx [⟨tg, it, ifs, 0⟩] scope pos) (some (.Name y py)) spos.line X.env = pure true) (hpi : PI X tg it wiT) (ok : BlkOk X.N X.env.scope scope own)
    (h1 : ∀ s H C cl fp, PG (X.blk s H scope (compEnvC scope cl C X.env) fp) tg g) (h2 : ∀ s H C cl fp, PTs (X.blk s H scope (compEnvC scope cl C X.env) fp) ifs tt)
    (h3 : ∀ s H C cl fp, PE (X.blk s H scope (compEnvC scope cl C X.env) fp) kx tk) (h4 : ∀ s H C cl fp, PE (X.blk s H scope (compEnvC scope cl C X.env) fp) vx tv) (hfs : ∀ x, foldedSetIterable it X.env x = pure x) :
    PS X (.Assign [.Name y py] (.DictComp kx vx [⟨tg, it, ifs, 0⟩] scope pos) spos) (tAsg (tDc wiT g tt tk tv (own.map Prod.snd)) (L2.gName j)) := ⟨fun pins s σ H De I h0 => by
  rw [exec_Assign_Name_used _ _ _ _ hsw]
  refine wpAny_bind (wpAny_standAt (wpAny_bind ?_))
  show wpAny _ X.A (do let _ ← comprehension (.DictComp kx vx [⟨tg, it, ifs, 0⟩] scope pos) scope X.env (firstIterPos [⟨tg, it, ifs, 0⟩] pos) newDict false (eval it X.env) (some (assign (.Name y py) X.env))) _ _ s
  have h0' : tDc wiT g tt tk tv (own.map Prod.snd) σ H (fun z Hz => L2.gName j z σ Hz De.nx) := h0
  refine wpAny_bind (thn (dc_core (Qf := fun _ s' => SP X pins De .next s') hcm hnd I hpi ok h1 h2 h3 h4 hfs h0' fun L C s' m H' Iv qv hn f => ?_) fun _ s' hq => wpAny_pure (wpAny_pure hq))
  show wpAny _ _ (assign (.Name y py) X.env (.ref L)) _ _ _
  refine wpAny_assign_Name (store_ok2 (v := V.ref L) Iv hnd hN (.inl hyl) rfl (fun s2 Iw ⟨a, sb, hz⟩ => ?_) (.inr hyl))
  obtain ⟨e0, e1, e2, e3, e4, e5⟩ := f
  have hne : C ≠ a := hz.elim (fun z => by rw [z]; exact e1) fun z => fun e => e4 y a z e.symm
  exact ⟨m, hn.sameBut sb hne, fun hh sc => ⟨_, H', Iw.turned (t' := s2.toks) (fun b o hb e => (sc.2 b hb).trans e) e0 e1 e3 e4 e5, qv⟩⟩⟩
theorem rs_setDc (j : Nat) (own : List (Str × Nat)) (hcm : X.calm = true) (hnd : X.N.Nodup) (hit : RfI X tg it wi) (ok : BlkOk X.N X.env.scope scope own) (ht : ∀ s H C cl fp, RfK (X.blk s H scope (compEnvC scope cl C X.env) fp) (own.map Prod.snd) tg wg) (hts : ∀ s H C cl fp, RfTs (X.blk s H scope (compEnvC scope cl C X.env) fp) ifs wc)
    (hek : ∀ s H C cl fp, RfE (X.blk s H scope (compEnvC scope cl C X.env) fp) kx wk) (hev : ∀ s H C cl fp, RfE (X.blk s H scope (compEnvC scope cl C X.env) fp) vx wv) (hN : X.N[j]? = some y := by rfl) (hyl : X.env.scope.names.lookup y = some .local := by rfl)
    (hsw : swapsWith (.DictComp kx vx [⟨tg, it, ifs, 0⟩] scope pos) (some (.Name y py)) spos.line X.env = pure true := by rfl) (hfs : ∀ x, foldedSetIterable it X.env x = pure x := by intro _; rfl) : RfS1 X (.Assign [.Name y py] (.DictComp kx vx [⟨tg, it, ifs, 0⟩] scope pos) spos) (sSet j (wDc (own.map Prod.snd) wi wg wc wk wv)) := fun ρ Z h => by
  obtain ⟨wiT, hpi, hw⟩ := hit _ _ _ h
  exact s1_of (ps_setDcV (own := own) hcm hnd hN hyl hsw hpi ok (pg_bk X scope tg) (pts_bk X scope ifs) (pe_bk X scope kx) (pe_bk X scope vx) hfs) fun B F0 σ H De Wx tk R m => dc_runX own ht hts hek hev B F0 [] [] σ H _ (fun Rk kk => hw B F0 [] [] σ H Rk Wx tk rfl R kk fun x ρ1 cls d F H' hx RF xd => m.ex x ρ1 cls d F σ H' hx RF xd) rfl fun r ρ1 v H1 h1 R1 => m.nx _ _ H1 h1 (Rl.setS R1)
end
end Vl
end
section
set_option maxRecDepth 100000
/-! Hd: the head of a law. -/
namespace Vl
open PySem L2
theorem sSeq_def {a b : WS} {ρ : Rho} {Z : Outs} : sSeq a b ρ Z = a ρ { Z with nx := fun ρ1 => b ρ1 Z } := rfl
def Bd (x qual : Str) (st : Stmt) (ps : List Str) : Prop := ∀ (kV doc pm : Value) (an : Option Addr) (cdv ct : Value) (us : List Value), us.length = ps.length → bindArgs (PySem.W.fnOf x qual (defArgs st) (defBody st) (defScope st) .none kV doc pm an cdv ct) ⟨us, []⟩ = pure (ps.zip us)
theorem df_mk {K : PySem.W.Frag} {h : Heap} {mg : Str → Option Value} {x : Str} {st : Stmt} {ps : List Str} {f : Addr} {oc : Value} {od an : Option Addr} {osl : Array (Option Value)} {kV doc pm cdv ct : Value} (B : Bd x x st ps) (X : K.In h) (G : h.Ns mainGlobals mg)
    (a : PySem.W.nsIn K mainGlobals x = some (some (.ref f))) (l : K.lookup f = some ⟨oc, od, .func (PySem.W.fnOf x x (defArgs st) (defBody st) (defScope st) .none kV doc pm an cdv ct), osl⟩) (c : PySem.W.codeIn K cdv x = true) (k : PySem.W.keepIn K (.ref f) = true) : Df K mg x st ps :=
  ⟨f, _, fun_mk l c k, PySem.W.mg_of X G a, (fun_mk l c k).binds B⟩
theorem bl_mk {K : PySem.W.Frag} {h : Heap} {mg : Str → Option Value} (X : K.In h) (G : h.Ns mainGlobals mg) (z : ∀ x ∈ bltN, PySem.W.nsIn K mainGlobals x = some none) : Bl mg := fun x hx => PySem.W.mg_none_of X G (z x hx)
/-- what a law is told: its script -/
def sp_law : Sp := fun ds Q _ => ∃ ns : List Int, ds = [.lst (ns.map D.int)] ∧ ns.length ≤ 63 ∧ (∀ z ∈ ns, Builtin.Int.intBits z ≤ 1048576) ∧ Q (.v (.bl true))
theorem law_spN {K : PySem.W.Frag} {H : Hp} {a : Addr} {ns : List Int} (hl : ns.length ≤ 63) (hb : ∀ z ∈ ns, Builtin.Int.intBits z ≤ 1048576) (hS : SqL K H a (ns.map V.int)) : spF K (prOf sp_law) [.ref a] H (fun v _ => v = .bl true) (fun _ _ _ => False) := by
  have dn : ∀ l : List Int, DenL K H (l.map V.int) (l.map D.int) := fun l => by
    induction l with
    | nil => exact .nil
    | cons x l ih => exact .cons (.int x) ih
  refine ⟨fun _ => none, fun _ => none, [.v (.lst (ns.map D.int))], fun r _ => r = .v (.bl true), fun _ => False, rfl, ?_, ⟨[.lst (ns.map D.int)], rfl, ns, rfl, hl, hb, rfl⟩, ?_, fun _ _ _ _ _ h _ _ => h.elim⟩
  · exact ⟨H, [] ++ [], fun _ _ e => (by cases e), fun _ _ e => .inl e, fun _ _ e => (by cases e), fun _ _ _ => .inr rfl, .cons (.v (.lst hS (dn ns))) .nil, by simp, fun _ e => by cases e⟩
  · rintro r ts' v H' rfl R
    obtain ⟨F, A, _, _, _, _, o, _, _⟩ := R
    cases o with
    | cons h _ => cases h with
      | v h => cases h; rfl
theorem walkN {l : PySem.W.OpenLaw} {q : Program} {loose : List Str} {XP : (Str → Option Value) → Heap → Prop} {YP : World → Heap → Prop} {d : DefRec} {K : Params → PySem.W.Frag} (k : Nat) (hr : Room k callerA) (hn : l.most = some 63) (hdf : d.params.defaults = [])
    (hY : ∀ (w : World) (h : Heap), YP w h → (K w.params).In h)
    (F : ∀ (w : World) (mg : Str → Option Value) (fa : Addr) (h : Heap), (K w.params).In h → h.Ns mainGlobals mg → mg d.name = some (.ref fa) →
      ∃ fd : FuncData, (∀ (s : Shared) (u : Value), BindsTo s fd ⟨[u], []⟩ [("script", u)]) ∧ ∀ base : Heap, (K w.params).In base → base.Ns mainGlobals mg → FnOk l.prog w (K w.params) mg base (L2.CX l.prog w) k fa fd ["script"] (spF (K w.params) (prOf sp_law))) :
    PySem.W.WalkO q loose XP YP l.row.toRowW d [] (fun f vs => PySem.call f vs) :=
  L2.walk_ofB (n := 63) (k := k) (x := "script") (CX := fun w => L2.CX l.prog w) (sp := fun w => spF (K w.params) (prOf sp_law)) hn (by decide) hdf hr hY F (fun _ _ _ _ hl hb _ hS => law_spN hl hb hS) fun w H s e s' h => by
    obtain ⟨_, _, _, _, _, _, _, _, _, _, _, _, z⟩ := h
    exact z
section
variable {P : Program} {w : World} {K : PySem.W.Frag} {mg : Str → Option Value} {base : Heap}
theorem fnok_w {x qual : Str} {st : Stmt} {f : Addr} {fd : FuncData} {N ps : List Str} {k : Nat} {S : Sp} {body : WS} (F : Fun K x qual st f fd) (S' : FnScope N ps (defScope st)) (hN : ps.length ≤ N.length) (hS : ∀ ds Q Qx, S ds Q Qx → ds.length = ps.length)
    (hrf : ∀ (cdv : Value) (A : Around) (outer : List Env) (s : Shared) (H : Hp) (E : XK), Room k (cxD P w K mg base N qual st f cdv A outer s H E).A → RfS (cxD P w K mg base N qual st f cdv A outer s H E) (defBody st) body)
    (hsp : ∀ ds Q Qx, S ds Q Qx → body ((ds.map fun d => some (T.v d)) ++ List.replicate (N.length - ds.length) none) { nx := fun _ => Q (.v .non), rt := fun r _ => Q r, ex := fun x _ => Qx x }) : FnOk P w K mg base (L2.CX P w) (k + 1) f fd ps (spF K (prOf S)) := by
  refine fnok_v F S' ?_ hN ?_
  · rintro ts Qt Qx ⟨ds, rfl, h⟩
    exact ⟨ds, rfl, hS _ _ _ h⟩
  · intro cdv A outer s H E ds Qt Qx hr h
    exact hrf cdv A outer s H E hr _ _ (hsp _ _ _ (prOf_iff.mp h))
end
theorem atI_0 {α : Type} {x : α} {xs : List α} : atI (x :: xs) 0 = some x := at_nat (i := 0) rfl
theorem atI_1 {α : Type} {x y : α} {xs : List α} : atI (x :: y :: xs) 1 = some y := at_nat (i := 1) rfl
theorem atI_2 {α : Type} {x y z : α} {xs : List α} : atI (x :: y :: z :: xs) 2 = some z := at_nat (i := 2) rfl
theorem atI_3 {α : Type} {x y z w : α} {xs : List α} : atI (x :: y :: z :: w :: xs) 3 = some w := at_nat (i := 3) rfl
theorem st_join {a R : WS} {ρ : Rho} {Z : Outs} (I : Rho → Prop) (h : ∀ R' : Rho → Prop, (∀ ρ', I ρ' → R' ρ') → a ρ { Z with nx := R' }) (k : ∀ ρ', I ρ' → R ρ' Z) : sSeq a R ρ Z := h (fun ρ1 => R ρ1 Z) k
def fldW (C : Addr) (f : Str) (d : D) (k : D → Prop) : Prop := match d with
  | .obj C' fs => C' = C ∧ ∃ d, fs.lookup f = some d ∧ k d
  | _ => False
theorem wFld_def {C : Addr} {f : Str} {a : WE} {ρ : Rho} {Φ : T → Rho → Prop} {Ξ : EX} : wFld C f a ρ Φ Ξ = a ρ (fun r ρ1 => fldW C f r.d fun d => Φ (.v d) ρ1) Ξ := rfl
theorem fldW_p {C : Addr} {n : Int} {as : List Arw} {k : D → Prop} : fldW C "places" (trD C n as) k = k (.int n) := by
  refine propext ⟨?_, fun h => ⟨rfl, _, rfl, h⟩⟩
  rintro ⟨_, d, e, h⟩
  cases e
  exact h
theorem ex_app2 {α β : Type} {a : α} {b : β} : (∃ f : α → β → Prop, f a b) = True := eq_true ⟨fun _ _ => True, trivial⟩
theorem ixl_0 {α : Type} {x : α} {xs : List α} : ixN (List.length (x :: xs)) 0 = some 0 := by
  unfold ixN
  simp only [List.length_cons]
  rw [if_pos (by omega), if_pos (by omega)]
  rfl
theorem ixl_2 {α : Type} {x y z : α} {xs : List α} : ixN (List.length (x :: y :: z :: xs)) 2 = some 2 := by
  unfold ixN
  simp only [List.length_cons]
  rw [if_pos (by omega), if_pos (by omega)]
  rfl
open Classical in
theorem deq_iff {x y : D} : deq x y = true ↔ x = y := by
  unfold deq
  exact decide_eq_true_iff
open Classical in
theorem deq_self {x : D} : deq x x = true := deq_iff.mpr rfl
theorem ex2_eq {α β : Type} {i : α} {j : β} {P : α → β → Prop} : (∃ a b, (i = a ∧ j = b) ∧ P a b) = P i j := propext ⟨fun ⟨a, b, ⟨e1, e2⟩, h⟩ => by subst e1; subst e2; exact h, fun h => ⟨i, j, ⟨rfl, rfl⟩, h⟩⟩
def keepV : Option T → Option T → Option T
  | some (.v d), _ => some (.v d)
  | _, o => o
theorem set_slot : ∀ {ρ : Rho} {j : Nat}, ρ.set j (slot ρ j) = ρ
  | [], _ => rfl
  | _ :: _, 0 => rfl
  | o :: r, j + 1 => by
    show o :: r.set j (slot r j) = _
    rw [set_slot]
theorem restR_nil {ρ0 ρ : Rho} : restR ρ0 ρ [] = ρ := rfl
theorem restR_cons {ρ0 ρ : Rho} {j : Nat} {vs : List Nat} : restR ρ0 ρ (j :: vs) = restR ρ0 (ρ.set j (keepV (slot ρ0 j) (slot ρ j))) vs := by
  rw [restR]
  cases h : slot ρ0 j with
  | none => simp only [keepV, set_slot]
  | some t => cases t <;> simp only [keepV, set_slot]
theorem keepV_n {o : Option T} : keepV none o = o := rfl
section
variable {ds : List D} {n : Int} {w : Str} {kvs : List (Key × D)} {p : Bool} {C : Addr} {fs : List (Str × D)}
theorem okC_b : (D.bl p).okC C := .inl rfl
theorem okC_i : (D.int n).okC C := .inl rfl
theorem flat_n : D.non.flat = true := rfl
theorem flat_i : (D.int n).flat = true := rfl
end
theorem lst_v1 {x0 : D} : (T.lst [T.v x0]).d = .lst [x0] := lst_vd [x0]
theorem lst_v3 {x0 x1 x2 : D} : (T.lst [T.v x0, T.v x1, T.v x2]).d = .lst [x0, x1, x2] := lst_vd [x0, x1, x2]
section
variable {vs : List Nat} {tg : WG} {c : WT} {elt : WE} {ρ1 : Rho} {Φ : T → Rho → Prop}
theorem forP_D {body : WS} {Z : Outs} (xs : List D) (I : List D → Rho → Prop) (h0 : I [] ρ1) (hs : ∀ pre a post ρ', xs = pre ++ a :: post → I pre ρ' → tg a ρ' fun ρ2 => body ρ2 { Z with nx := I (pre ++ [a]), ct := I (pre ++ [a]), bk := Z.nx }) (hd : ∀ ρ', I xs ρ' → Z.nx ρ') : forP tg body xs ρ1 Z := ⟨I, h0, hs, hd⟩
end
section
variable {α : Type}
theorem lenk_0 : (([] : List α).length ≤ 100000) = True := eq_true (by simp)
theorem lenk_1 {x0 : α} : (([x0] : List α).length ≤ 100000) = True := eq_true (by simp)
theorem lenk_2 {x0 x1 : α} : (([x0, x1] : List α).length ≤ 100000) = True := eq_true (by simp)
theorem lenk_3 {x0 x1 x2 : α} : (([x0, x1, x2] : List α).length ≤ 100000) = True := eq_true (by simp)
theorem lenk_4 {x0 x1 x2 x3 : α} : (([x0, x1, x2, x3] : List α).length ≤ 100000) = True := eq_true (by simp)
theorem lenk_10 {x0 x1 x2 x3 x4 x5 x6 x7 x8 x9 : α} : (([x0, x1, x2, x3, x4, x5, x6, x7, x8, x9] : List α).length ≤ 100000) = True := eq_true (by simp)
end
/-! ### rows of arrows, as they are told -/
def arD (a : Arw) : D := .tup [.int a.1, .str a.2.1, .int a.2.2.1, .int a.2.2.2]
section
variable {as bs : List Arw} {i : Int} {k : D → Prop} {kT : T → Prop} {kL : List D → Prop} {l u : Option Int} {C : Addr}
theorem asD_walk : walkW (asD as) kL = kL (as.map arD) := rfl
end
theorem kit_of {K : PySem.W.Frag} {C : Addr} {n : String} (h : PySem.W.subIn K (.ref C) (.type n) = some false) (hm : PySem.W.kitMeta n = true) : PySem.W.kitOne K (.ref C) (.type n) = some false := by
  unfold PySem.W.kitOne
  have : ((Value.ref C == Value.type n) = true) = False := by simp
  simp only [this, if_false]
  unfold PySem.W.kitCls
  simp only [hm, if_true]
  exact h
theorem clsI_mk {K : PySem.W.Frag} {C : Addr} (c : Cls K C) (h1 : PySem.W.findIn K (.ref C) "__class__" = some (some (.builtin "object.__class__"))) (h2 : PySem.W.specialIn K (.builtin "object.__class__") "__get__" = some (some (.builtin "getset_descriptor.__get__"))) (h3 : PySem.W.takesIn K (.builtin "object.__class__") = some true) (h4 : PySem.W.mroIn K C (.type "object") = some true)
    (s1 : PySem.W.subIn K (.ref C) (.type "int") = some false) (s2 : PySem.W.subIn K (.ref C) (.type "bool") = some false) (s3 : PySem.W.subIn K (.ref C) (.type "str") = some false) (s4 : PySem.W.subIn K (.ref C) (.type "tuple") = some false) (s5 : PySem.W.subIn K (.ref C) (.type "list") = some false) (s6 : PySem.W.subIn K (.ref C) (.type "dict") = some false) : ClsI K C :=
  ⟨c, h1, h2, h3, h4, kit_of s1 (by decide +kernel), kit_of s2 (by decide +kernel), kit_of s3 (by decide +kernel), kit_of s4 (by decide +kernel), kit_of s5 (by decide +kernel), kit_of s6 (by decide +kernel)⟩
end Vl
end
section
set_option maxRecDepth 100000
/-! Wr1: sorted({..}) of ints; math.lcm, math.gcd. -/
namespace Vl
open PySem L2
section
variable {X : Cx} {tg it elt c : Expr} {ifs : List Expr} {scope : Scope} {own : List (Str × Nat)} {ρ ρ1 : Rho} {wi : WI} {wg : WG} {wc : WT} {we : WE} {pos p p2 : Pos} {vs : List Nat}
end
end Vl
end
section
set_option maxRecDepth 100000
/-! Wr2: math.lcm, math.gcd. -/
namespace Vl
open PySem L2
section
variable {X : Cx} {ds : List D} {Φ : T → Prop} {e : Expr} {es : List Expr} {va : WA} {pos p : Pos}
end
section
variable {vs : List Nat} {tg : WG} {c : WT} {elt : WE} {ρ1 : Rho} {Φ : T → Rho → Prop}
end
end Vl
end
section
set_option maxRecDepth 100000
set_option maxHeartbeats 4000000
/-! Wr3: tuple * int. -/
namespace Vt
open PySem PySem.Spec PyProof.Rows L2
section
variable {X : Cx}
end
end Vt
namespace Vl
open PySem L2
section
variable {X : Cx} {ds : List D} {n : Int} {Φ : T → Prop}
theorem DenL.flat {K : PySem.W.Frag} {F : Hp} {vs : List V} {ds : List D} (h : DenL K F vs ds) : ∀ m : Nat, DenL K F (List.replicate m vs).flatten (List.replicate m ds).flatten
  | 0 => .nil
  | m + 1 => by
    rw [List.replicate_succ, List.replicate_succ, List.flatten_cons, List.flatten_cons]
    exact h.app (DenL.flat h m)
end
end Vl
end
section
set_option maxRecDepth 100000
/-! Wr4: comprehensions whose items change a slot. -/
namespace Vl
open PySem L2
section
variable {vs : List Nat} {tg : WG} {elt : WE} {ρ1 : Rho} {Φ : T → Rho → Prop}
end
end Vl
end
section
set_option maxRecDepth 100000
/-! Wr5: a, b = x, y. -/
namespace Vl
open PySem L2
section
variable {X : Cx} {a b : Expr} {va : WA} {pos : Pos}
end
end Vl
end
section
set_option maxRecDepth 100000
/-! Wr6: x or y, a value by its truth. -/
namespace Vl
open PySem L2
section
variable {X : Cx} {a b : Expr} {rest : List Expr} {wa wb : WE} {pos : Pos}
end
end Vl
end
section
set_option maxRecDepth 100000
/-! Wr7: enumerate(d.items()): what the inner iterator gives while its first pair stays out. -/
namespace PySem.Vy
open PySem Builtin
theorem bnd {α β : Type} {M : Model} {A : Around} {E : Value → Shared → Prop} {s : Shared} {m : Sem α} {f : α → Sem β} {Q : β → Shared → Prop} (h : wpAny M A m (fun a s1 => wpAny M A (f a) Q E s1) E s) : wpAny M A (m >>= f) Q E s := wpAny_bind h
section
variable {prog : Program} {w : World} {K : Type} [DecidableEq K] {knd : KeyKind prog w K} {A : Around} {E : Value → Shared → Prop} {s : Shared} {it d e : Addr} {i n ep : Nat} {x0 ok ov key v : Value} {f : Bool} {kvs : List (K × Value)}
end
set_option maxHeartbeats 1000000 in
theorem new_enum {v : Value} {o : Obj} {H : Heap → Prop} (B : Begins v o H) :
    Meets (Builtin.«enumerate.__new__» ⟨[.type "enumerate", v], []⟩) (fun _ R s => H s.heap ∧ R (.ok (.ret (.ref (s.heap.push o).objs.size))) { s with heap := (s.heap.push o).push { cls := .type "enumerate", data := .fields #[.none, .bool false, .ref s.heap.objs.size, rawInt 0, .none, .none] } }) :=
  .of_wp fun prog w A R s hh => by
    obtain ⟨hp, g, dr, tk, os⟩ := s; obtain ⟨h1, h⟩ := hh
    have hsub := sub_enumerate
    have q1 : ∀ {A' : Around} {E' : Value → Shared → Prop} {Q' : Value → Shared → Prop}, Q' (.ref hp.objs.size) ⟨hp.push o, g, dr, tk, os⟩ → wpAny (model prog w) A' (pyIter v) Q' E' ⟨hp, g, dr, tk, os⟩ := fun q => B.iter prog w _ _ ⟨hp, g, dr, tk, os⟩ _ h1 q
    wp_walk using q1
    refine wpAny_stack_any fun st => wpAny_pure ?_
    split
    · rename_i c _ _ _ _ _
      cases (c == Value.type "enumerate") <;> (wp_walk using q1; exact ⟨_, rfl, h⟩)
    · (wp_walk using q1; exact ⟨_, rfl, h⟩)
section
variable {prog : Program} {w : World} {A : Around} {E : Value → Shared → Prop} {s : Shared}
theorem enum_at {v : Value} {o : Obj} {H : Heap → Prop} {Q : Value → Shared → Prop} (B : Begins v o H) (h1 : H s.heap)
    (h : ∀ h', IsEnum h' (s.heap.objs.size + 1) s.heap.objs.size 0 .none → h'.get? s.heap.objs.size = some o → h'.objs.size = s.heap.objs.size + 2 → (∀ b u, s.heap.get? b = some u → h'.get? b = some u) → Q (.ref (s.heap.objs.size + 1)) { s with heap := h' }) :
    wpAny (model prog w) A (call (.type "enumerate") [v]) Q E s := by
  refine callType_new F.called_enumerate (by decide) (F.typeCall_enumerate_1 _) (F.newCall_enumerate_1 _) (fun obj => F.args_object_init_2 obj _) F.entry_enumerate_new (new_enum B) ⟨h1, ?_⟩
  have hz : (s.heap.push o).objs.size = s.heap.objs.size + 1 := Heap.size_push ..
  have he := Heap.get?_push_size (s.heap.push o) (o := { cls := .type "enumerate", data := .fields #[.none, .bool false, .ref s.heap.objs.size, rawInt 0, .none, .none] }) rfl
  show _ ∧ _
  rw [hz] at he ⊢
  exact ⟨⟨_, he, rfl⟩, h _ he (Heap.get?_push_of_some _ (Heap.get?_push_size _ B.free)) (by rw [Heap.size_push, hz]) fun b u x => Heap.get?_push_of_some _ (Heap.get?_push_of_some _ x)⟩
end
end PySem.Vy
namespace L2
open PySem PySem.Spec PyProof.Rows PySem.Vy
section
variable {P : Program} {w : World} {K : PySem.W.Frag} {d : Addr} {o : Obj} {es : Array DictEntry} {ep : Nat} {elts : List Expr} {kk : Nat} {tpos : Pos}
end
section
variable {X : Cx} {e : Expr} {td : TE} {p pos tpos apos cpos : Pos} {elts : List Expr} {kk : Nat}
end
end L2
namespace Vl
open PySem L2
section
variable {X : Cx} {a : Expr} {wa : WE} {elts : List Expr} {kk : Nat} {p pos tpos apos cpos : Pos}
end
end Vl
end
section
set_option maxRecDepth 100000
/-! Wr8: an owned list compared while it stays owned. -/
namespace Vl
open PySem L2
section
variable {X : Cx} {b : Expr} {wb : WE} {pos p : Pos} {xa : Str} {op : CmpOp}
end
end Vl
end
section
set_option maxRecDepth 100000
/-! Wr9: an owned list within an owned list, by written indices. -/
namespace Vl
open PySem L2
section
variable {X : Cx} {e : Expr} {we : WE} {pos p pa pn pm p2 apos cpos : Pos} {xa : Str}
/-- the owned list that is part n of the owned list of slot i -/
def onLL (ρ : Rho) (i : Nat) (n : Int) (k : List T → (T → Rho) → Prop) : Prop := onL ρ i fun ts re => ∃ j us, ixN ts.length n = some j ∧ ts[j]? = some (.lst us) ∧ k us fun u => re (.lst (ts.set j u))
theorem onLL_ok {ρ : Rho} {i : Nat} {n : Int} {k : List T → (T → Rho) → Prop} (h : onLL ρ i n k) : ∃ t1 ts j us, ρ[i]? = some (some t1) ∧ (t1 = .lst ts ∨ ∃ a, t1 = .at_ a (.lst ts)) ∧ ixN ts.length n = some j ∧ ts[j]? = some (.lst us) ∧ k us fun u => ρ.set i (some (reT t1 (.lst (ts.set j u)))) := by
  obtain ⟨t1, ts, h1, h2, j, us, h3, h4, h5⟩ := onL_ok h
  exact ⟨t1, ts, j, us, h1, h2, h3, h4, h5⟩
/-- how the inner list stands -/
theorem own_inner {K : PySem.W.Frag} {F H : Hp} {v : V} {t1 : T} {ts us : List T} {A : List Addr} {j : Nat} (o : Own K F H v t1 A) (ht : t1 = .lst ts ∨ ∃ a, t1 = .at_ a (.lst ts)) (hj : ts[j]? = some (.lst us)) :
    ∃ a xs b ys B, v = .ref a ∧ H a = some (.lst xs) ∧ xs.length = ts.length ∧ xs[j]? = some (.ref b) ∧ H b = some (.lst ys) ∧ OwnL K F H ys us B := by
  have fin : ∀ {v : V} {A : List Addr}, Own K F H v (.lst ts) A → ∃ a xs b ys B, v = .ref a ∧ H a = some (.lst xs) ∧ xs.length = ts.length ∧ xs[j]? = some (.ref b) ∧ H b = some (.lst ys) ∧ OwnL K F H ys us B := fun o => by
    obtain ⟨a, xs, A', rfl, _, h1, h2⟩ := o.lstI
    obtain ⟨x, B, hx, ox, _⟩ := h2.getI hj
    obtain ⟨b, ys, B', rfl, _, h3, h4⟩ := ox.lstI
    exact ⟨a, xs, b, ys, B', rfl, h1, h2.len, hx, h3, h4⟩
  rcases ht with rfl | ⟨a, rfl⟩
  · exact fin o
  · cases o with
    | at_ o => exact fin o
/-- xs[n][m], read -/
def wIxOO (i : Nat) (n m : Int) : WE := fun ρ Φ _ => onLL ρ i n fun us _ => ∃ d, atI us m = some (.v d) ∧ Φ (.v d) ρ
theorem rf_ixOO {n m : Int} {j1 j2 : Nat} {p3 : Pos} (i : Nat) (hN : X.N[i]? = some xa := by rfl) (hv : Vis X.env.scope xa := by first | exact Or.inl rfl | exact Or.inr (Or.inl rfl) | exact Or.inr (Or.inr rfl)) (hd1 : (xa == ("__debug__" : Str)) = false := by decide) (hcd : (xa == ("__classdict__" : Str)) = false := by decide)
    (hs1 : PlainIx (.Constant (.int n) j1 pn) := by first | exact fun _ _ => rfl | (intro _ _; rfl)) (hs2 : PlainIx (.Constant (.int m) j2 pm) := by first | exact fun _ _ => rfl | (intro _ _; rfl)) :
    RfE X (.Subscript (.Subscript (.Name xa pa) (.Constant (.int n) j1 pn) p3) (.Constant (.int m) j2 pm) pos) (wIxOO i n m) := fun ρ Φ Ξ h B F0 st vst σ H Q Wx tk hl R k kx => by
  obtain ⟨t1, ts, j, us, hi, ht, hn, hj, d, hd, hf⟩ := onLL_ok h
  refine ⟨_, pe_ix ix_list (pe_ix ix_list (pe_var hN hv hd1 hcd) pe_int hs1) pe_int hs2, ?_⟩
  obtain ⟨v, F, A, e1, o, eF, mk⟩ := R.slot hl hi
  obtain ⟨a, xs, b, ys, B', rfl, h1, h2, h3, h4, h5⟩ := own_inner o ht hj
  obtain ⟨l, g⟩ := own_at h5
  unfold atI at hd
  cases hx : ixN us.length m with
  | none => rw [hx] at hd; simp at hd
  | some q =>
    rw [hx] at hd
    obtain ⟨w, hw, dw⟩ := g hd
    exact ⟨_, e1, a, xs, n, .ref b, rfl, rfl, SqL.of h1, by unfold atI; rw [h2, hn]; exact h3, b, ys, m, w, rfl, rfl, SqL.of h4, by unfold atI; rw [l, hx]; exact hw, k _ ρ w H hf (mk w d dw)⟩
/-- len(xs[n]) -/
def wLenOO (i : Nat) (n : Int) : WE := fun ρ Φ _ => onLL ρ i n fun us _ => Φ (.v (.int us.length)) ρ
theorem rf_lenOO {n : Int} {j1 : Nat} {p3 : Pos} (i : Nat) (hm : X.mg "len" = none) (hN : X.N[i]? = some xa := by rfl) (hv : Vis X.env.scope xa := by first | exact Or.inl rfl | exact Or.inr (Or.inl rfl) | exact Or.inr (Or.inr rfl)) (hd1 : (xa == ("__debug__" : Str)) = false := by decide) (hcd : (xa == ("__classdict__" : Str)) = false := by decide)
    (hg : Gl X "len" := by rfl) (hs1 : PlainIx (.Constant (.int n) j1 pn) := by first | exact fun _ _ => rfl | (intro _ _; rfl)) (he : starEach [.Subscript (.Name xa pa) (.Constant (.int n) j1 pn) p3] X.env = (false, eval (.Subscript (.Name xa pa) (.Constant (.int n) j1 pn) p3) X.env) :: starEach [] X.env := by rfl) :
    RfE X (.Call (.Name "len" p) [.Subscript (.Name xa pa) (.Constant (.int n) j1 pn) p3] [] pos) (wLenOO i n) := fun ρ Φ Ξ h B F0 st vst σ H Q Wx tk hl R k kx => by
  obtain ⟨t1, ts, j, us, hi, ht, hn, hj, hf⟩ := onLL_ok h
  refine ⟨_, pe_callB call_len hg hm PySem.boot_len (pa_cons (pe_ix ix_list (pe_var hN hv hd1 hcd) pe_int hs1) pa_nil he), ?_⟩
  obtain ⟨v, F, A, e1, o, eF, mk⟩ := R.slot hl hi
  obtain ⟨a, xs, b, ys, B', rfl, h1, h2, h3, h4, h5⟩ := own_inner o ht hj
  exact ⟨_, e1, a, xs, n, .ref b, rfl, rfl, SqL.of h1, by unfold atI; rw [h2, hn]; exact h3, .ref b, us.length, rfl, .inl ⟨ys, SqL.of h4, by rw [h5.len]⟩, k _ ρ _ H hf (R.pushS fun _ => .int _)⟩
/-- xs[n][m] = e -/
def sPutOO (i : Nat) (n m : Int) (e : WE) : WS := fun ρ Z => (∃ f, onL ρ i f) ∧ e ρ (fun r ρ1 => onLL ρ1 i n fun us re => ∃ k, ixN us.length m = some k ∧ Z.nx (re (.lst (us.set k r)))) Z.ex
theorem rs_putOO {n m : Int} {j1 j2 : Nat} (i : Nat) (he : RfE X e we) (hN : X.N[i]? = some xa := by rfl) (hv : Vis X.env.scope xa := by first | exact Or.inl rfl | exact Or.inr (Or.inl rfl) | exact Or.inr (Or.inr rfl)) (hd1 : (xa == ("__debug__" : Str)) = false := by decide) (hcd : (xa == ("__classdict__" : Str)) = false := by decide)
    (hpi : PlainIx (.Constant (.int n) j1 p) := by first | exact fun _ _ => rfl | (intro _ _; rfl))
    (hs : swapsWithSole [.Subscript (.Subscript (.Name xa pa) (.Constant (.int n) j1 p) pn) (.Constant (.int m) j2 p2) pm] e pos.line X.env = pure false := by rfl) (hw : swappedStores [.Subscript (.Subscript (.Name xa pa) (.Constant (.int n) j1 p) pn) (.Constant (.int m) j2 p2) pm] e X.env = pure none := by rfl) (h1 : (assignEach [.Subscript (.Subscript (.Name xa pa) (.Constant (.int n) j1 p) pn) (.Constant (.int m) j2 p2) pm] X.env).map (·.2) = [assign (.Subscript (.Subscript (.Name xa pa) (.Constant (.int n) j1 p) pn) (.Constant (.int m) j2 p2) pm) X.env] := by rfl)
    (ha : ∀ v, assign (.Subscript (.Subscript (.Name xa pa) (.Constant (.int n) j1 p) pn) (.Constant (.int m) j2 p2) pm) X.env v = (do
      let ov ← holding [v] (eval (.Subscript (.Name xa pa) (.Constant (.int n) j1 p) pn) X.env)
      let iv ← holding [v, ov] (eval (.Constant (.int m) j2 p2) X.env)
      standAt pm
      holding [v, ov, iv] (setItem ov iv v)
      release [v, ov, iv] []) := by intro _; rfl) : RfS1 X (.Assign [.Subscript (.Subscript (.Name xa pa) (.Constant (.int n) j1 p) pn) (.Constant (.int m) j2 p2) pm] e pos) (sPutOO i n m we) := fun ρ Z h => by
  obtain ⟨⟨f, hf⟩, h⟩ := h
  obtain ⟨t0, ts0, hi0, ht0, _⟩ := onL_ok hf
  refine s1_of (ps_asg (pe_u X e) (pg_sub (pe_ix ix_list (pe_var hN hv hd1 hcd) pe_int hpi) pe_int set_list ha) hs hw h1) fun B F0 σ H De Wx tk R m1 => ?_
  obtain ⟨w, _, _, e1, _⟩ := Rl.slot (st := []) (vst := []) R rfl hi0
  refine he _ _ _ h B F0 [] [] σ H _ Wx tk rfl R (fun r ρ1 v H1 g1 R1 => ⟨w, e1, ?_⟩) (fun x ρ1 cls d F H' hx RF xd => m1.ex x ρ1 cls d F σ H' hx RF xd)
  obtain ⟨t1, ts, j, us, hi, ht, hn, hj, k, hk, hnx⟩ := onLL_ok g1
  have hlt : i < ρ1.length := (List.getElem?_eq_some_iff.mp hi).1
  have R3 : Rl X.K B F0 (some r :: ρ1) (some v :: σ) H1 := R1
  obtain ⟨a, b', xs, g1, g2, g3, g4, R4⟩ := R3.split (i := i + 1) (by simpa using hi) ht hj (fun _ e => by cases e) (fun _ _ e => by cases e)
  simp only [List.getElem?_cons_succ] at g1
  rw [e1] at g1
  cases g1
  simp only [List.set_cons_succ] at R4
  refine ⟨a, xs, n, .ref b', rfl, rfl, SqL.of g2, by unfold atI; rw [g3, hn]; exact g4, ?_⟩
  have R6 : Rl X.K B F0 ([r].map some ++ (some (.at_ b' (.lst us)) :: ρ1.set i (some (reT t1 (.lst (ts.set j (.v (.ref b')))))))) ([v].map some ++ (some (.ref b') :: σ)) H1 := Rl.swap (ρ1 := [some (.at_ b' (.lst us))]) (ρ2 := [some r]) (σ1 := [some (.ref b')]) (σ2 := [some v]) rfl rfl R4
  obtain ⟨a2, ys, g5, g6, g7, _, kk⟩ := R6.write (i := 0) rfl rfl (.inr ⟨_, rfl⟩)
  simp at g5
  subst g5
  refine ⟨b', ys, m, k, rfl, rfl, g6, by rw [g7]; exact hk, m1.nx _ σ _ hnx ?_⟩
  have R7 := kk (ys.set k v) (us.set k r) fun F H' A C o1 o2 => by
    cases o2 with
    | cons o3 o4 =>
      cases o4
      obtain ⟨A', o5, l⟩ := o1.set o3 k
      exact ⟨A', o5, by simpa using l⟩
  have hjl : j < ts.length := (List.getElem?_eq_some_iff.mp hj).1
  have R8 := Rl.join (i := i) (ts := ts.set j (.v (.ref b'))) (u := .lst (us.set k r)) (j := j) (t1 := reT t1 (.lst (ts.set j (.v (.ref b'))))) R7 (by rw [List.getElem?_set_self hlt]) (by rcases ht with rfl | ⟨q, rfl⟩; exact .inl rfl; exact .inr ⟨_, rfl⟩) (List.getElem?_set_self hjl)
  rw [List.set_set, List.set_set] at R8
  have e9 : reT (reT t1 (.lst (ts.set j (.v (.ref b'))))) (.lst (ts.set j (.lst (us.set k r)))) = reT t1 (.lst (ts.set j (.lst (us.set k r)))) := by rcases ht with rfl | ⟨q, rfl⟩ <;> rfl
  rw [e9] at R8
  exact R8
/-- xs[n].pop(m), what comes out let go -/
def sPopOO (i : Nat) (n m : Int) : WS := fun ρ Z => onLL ρ i n fun us re => ∃ k, seqIndex? m us.length = some k ∧ k < us.length ∧ (-(2 ^ 63) ≤ m ∧ m < 2 ^ 63) ∧ Z.nx (re (.lst (us.eraseIdx k)))
theorem rs_popOO {n m : Int} {j1 j2 : Nat} {p3 : Pos} (i : Nat) (hN : X.N[i]? = some xa := by rfl) (hv : Vis X.env.scope xa := by first | exact Or.inl rfl | exact Or.inr (Or.inl rfl) | exact Or.inr (Or.inr rfl)) (hd1 : (xa == ("__debug__" : Str)) = false := by decide) (hcd : (xa == ("__classdict__" : Str)) = false := by decide)
    (hpi : PlainIx (.Constant (.int n) j1 p) := by first | exact fun _ _ => rfl | (intro _ _; rfl))
    (hbase : attributeBase (.Subscript (.Name xa pa) (.Constant (.int n) j1 p) pn) "pop" X.env (eval (.Subscript (.Name xa pa) (.Constant (.int n) j1 p) pn) X.env) = eval (.Subscript (.Name xa pa) (.Constant (.int n) j1 p) pn) X.env := by rfl)
    (hfew : ((backTo cpos (starEach [.Constant (.int m) j2 p3] X.env)).all (fun x => !x.1) && (backToKw cpos (keywordEach [] X.env)).all (fun x => x.1.isSome) && decide (([.Constant (.int m) j2 p3] : List Expr).length + ([] : List Keyword).length + (if ([] : List Keyword).isEmpty then 0 else 1) < 30)) = true := by rfl)
    (hs : starEach [.Constant (.int m) j2 p3] X.env = (false, eval (.Constant (.int m) j2 p3) X.env) :: starEach [] X.env := by rfl) (hsw : swapsWith (.Call (.Attribute (.Subscript (.Name xa pa) (.Constant (.int n) j1 p) pn) "pop" apos) [.Constant (.int m) j2 p3] [] cpos) none pos.line X.env = pure false := by rfl) (hline : (apos.endLine == cpos.line) = true := by rfl) :
    RfS1 X (.Expr (.Call (.Attribute (.Subscript (.Name xa pa) (.Constant (.int n) j1 p) pn) "pop" apos) [.Constant (.int m) j2 p3] [] cpos) pos) (sPopOO i n m) := fun ρ Z h => by
  obtain ⟨t1, ts, j, us, hi, ht, hn, hj, k, hk, hkl, hz, hnx⟩ := onLL_ok h
  refine s1_of (ps_expr (pe_bm PySem.F.plainAttrs_list PySem.F.slot_list_pop PySem.F.type_list_pop mt_popAt (pe_ix ix_list (pe_var hN hv hd1 hcd) pe_int hpi) (pa_cons pe_int pa_nil hs) hbase hfew hline hs (by rfl)) hsw) fun B F0 σ H De Wx tk R m1 => ?_
  have hlt : i < ρ.length := (List.getElem?_eq_some_iff.mp hi).1
  obtain ⟨a, b', xs, g1, g2, g3, g4, R4⟩ := Rl.split R hi ht hj (fun _ e => by cases e) (fun _ _ e => by cases e)
  have R6 : Rl X.K B F0 (([] : List T).map some ++ (some (.at_ b' (.lst us)) :: ρ.set i (some (reT t1 (.lst (ts.set j (.v (.ref b')))))))) (([] : List V).map some ++ (some (.ref b') :: σ)) H := R4
  obtain ⟨a2, ys, g5, g6, g7, _, kk⟩ := R6.write (i := 0) rfl rfl (.inr ⟨_, rfl⟩)
  simp at g5
  subst g5
  have hx : k < ys.length := by rw [g7]; exact hkl
  refine ⟨.ref a, g1, a, xs, n, .ref b', rfl, rfl, SqL.of g2, by unfold atI; rw [g3, hn]; exact g4, tyV_of g6, ?_⟩
  refine ⟨_, ys, m, k, ys[k], rfl, rfl, g6, hz.1, hz.2, by rw [g7]; exact hk, List.getElem?_eq_getElem hx, m1.nx _ σ _ hnx ?_⟩
  have R7 := kk (ys.eraseIdx k) (us.eraseIdx k) fun F H' A C o1 o2 => by
    cases o2
    obtain ⟨A', o5, l⟩ := o1.erase k
    exact ⟨A', o5, by simpa using l⟩
  have hjl : j < ts.length := (List.getElem?_eq_some_iff.mp hj).1
  have R8 := Rl.join (i := i) (ts := ts.set j (.v (.ref b'))) (u := .lst (us.eraseIdx k)) (j := j) (t1 := reT t1 (.lst (ts.set j (.v (.ref b'))))) R7 (by rw [List.getElem?_set_self hlt]) (by rcases ht with rfl | ⟨q, rfl⟩; exact .inl rfl; exact .inr ⟨_, rfl⟩) (List.getElem?_set_self hjl)
  rw [List.set_set, List.set_set] at R8
  have e9 : reT (reT t1 (.lst (ts.set j (.v (.ref b'))))) (.lst (ts.set j (.lst (us.eraseIdx k)))) = reT t1 (.lst (ts.set j (.lst (us.eraseIdx k)))) := by rcases ht with rfl | ⟨q, rfl⟩ <;> rfl
  rw [e9] at R8
  exact R8
end
end Vl
end
section
set_option maxRecDepth 100000
/-! Ws1: zip of two tuples; a truth value looked for among truth values. -/
namespace Vl
open PySem L2
section
variable {X : Cx} {a b : Expr} {wa wb : WE} {va : WA} {elts : List Expr} {kk : Nat} {p pos tpos : Pos}
end
end Vl
end
section
set_option maxRecDepth 100000
/-! Ws2: x.f = e, x an owned object. -/
namespace Vl
open PySem L2
section
variable {X : Cx} {e : Expr} {we : WE} {pos pos' pa : Pos} {xa f : Str} {C : Addr}
end
end Vl
end
section
set_option maxRecDepth 100000
/-! Ws3: xs[b].append(e), xs an owned list of owned lists. -/
namespace Vl
open PySem L2
section
variable {X : Cx} {b e : Expr} {wb we : WE} {pos pa pn apos cpos : Pos} {xa : Str}
def sAppIx (i : Nat) (b e : WE) : WS := fun ρ Z => (∃ f, onL ρ i f) ∧ b ρ (fun s ρ1 => ∃ n, s = .v (.int n) ∧ ρ1 = ρ ∧ onLL ρ i n fun us re => us.length < 100000 ∧ ∀ a : Addr, e (re (.v (.ref a))) (fun r ρ2 => ρ2 = re (.v (.ref a)) ∧ Z.nx (re (.lst (us ++ [r])))) Z.ex) Z.ex
theorem rs_appIx (i : Nat) (hb : RfE X b wb) (he : RfE X e we) (hN : X.N[i]? = some xa := by rfl) (hv : Vis X.env.scope xa := by first | exact Or.inl rfl | exact Or.inr (Or.inl rfl) | exact Or.inr (Or.inr rfl)) (hd1 : (xa == ("__debug__" : Str)) = false := by decide) (hcd : (xa == ("__classdict__" : Str)) = false := by decide)
    (hpi : PlainIx b := by first | exact fun _ _ => rfl | (intro _ _; rfl))
    (hbase : attributeBase (.Subscript (.Name xa pa) b pn) "append" X.env (eval (.Subscript (.Name xa pa) b pn) X.env) = eval (.Subscript (.Name xa pa) b pn) X.env := by rfl)
    (hfew : ((backTo cpos (starEach [e] X.env)).all (fun x => !x.1) && (backToKw cpos (keywordEach [] X.env)).all (fun x => x.1.isSome) && decide (([e] : List Expr).length + ([] : List Keyword).length + (if ([] : List Keyword).isEmpty then 0 else 1) < 30)) = true := by rfl)
    (hs : starEach [e] X.env = (false, eval e X.env) :: starEach [] X.env := by rfl) (hsw : swapsWith (.Call (.Attribute (.Subscript (.Name xa pa) b pn) "append" apos) [e] [] cpos) none pos.line X.env = pure false := by rfl) (hline : (apos.endLine == cpos.line) = true := by rfl) :
    RfS1 X (.Expr (.Call (.Attribute (.Subscript (.Name xa pa) b pn) "append" apos) [e] [] cpos) pos) (sAppIx i wb we) := fun ρ Z h => by
  obtain ⟨⟨f, hf⟩, h⟩ := h
  obtain ⟨t0, ts0, hi0, ht0, _⟩ := onL_ok hf
  refine s1_of (ps_expr (pe_bm PySem.F.plainAttrs_list PySem.F.slot_list_append PySem.F.type_list_append mt_append (pe_ix ix_list (pe_var hN hv hd1 hcd) (pe_u X b) hpi) (pa_cons (pe_u X e) pa_nil hs) hbase hfew hline hs (by rfl)) hsw) fun B F0 σ H De Wx tk R m => ?_
  obtain ⟨v0, F1, A1, e1, _⟩ := Rl.slot (st := []) (vst := []) R rfl hi0
  refine ⟨v0, e1, hb _ _ _ h B F0 [] [] σ H _ Wx tk rfl R (fun s ρ1 w H1 g1 R1 => ?_) (fun x ρ1 cls d F H' hx RF xd => m.ex x ρ1 cls d F σ H' hx RF xd)⟩
  obtain ⟨n, rfl, rfl, g2⟩ := g1
  obtain ⟨t1, ts, j, us, hi, ht, hn, hj, hz, hE⟩ := onLL_ok g2
  have R2 : Rl X.K B F0 ρ1 σ H1 := R1.drop
  have hlt : i < ρ1.length := (List.getElem?_eq_some_iff.mp hi).1
  have hjl : j < ts.length := (List.getElem?_eq_some_iff.mp hj).1
  obtain ⟨a, b', xs, k1, k2, k3, k4, R4⟩ := Rl.split R2 hi ht hj (fun _ e => by cases e) (fun _ _ e => by cases e)
  rw [e1] at k1
  cases k1
  obtain ⟨v2, F2, A2, _, o2, _, _⟩ := Rl.slot (st := []) (vst := []) R2 rfl hi
  have ty : tyV X.K "list" (.ref b') H1 := by
    obtain ⟨a9, xs9, b9, ys9, B9, rfl, z1, z2, z3, z4, _⟩ := own_inner o2 ht hj
    rename_i q9
    have e9 : a9 = a := by
      have := (Rl.slot (st := []) (vst := []) R2 rfl hi)
      simp_all
    subst e9
    rw [k2] at z1
    cases z1
    rw [k4] at z3
    cases z3
    exact tyV_of z4
  refine ⟨a, xs, n, .ref b', rfl, R1.headI, SqL.of k2, by unfold atI; rw [k3, hn]; exact k4, ty, ?_⟩
  refine he _ _ _ (hE b') B F0 [some (.at_ b' (.lst us))] [some (.ref b')] σ H1 _ Wx tk rfl R4 (fun r ρ2 u H2 h3 R5 => ?_) (fun x ρ1 cls d F H' hx RF xd => m.ex x ρ1 cls d F σ H' hx (RlF.drop RF) xd)
  obtain ⟨rfl, hnx⟩ := h3
  have R6 : Rl X.K B F0 ([r].map some ++ (some (.at_ b' (.lst us)) :: ρ1.set i (some (reT t1 (.lst (ts.set j (.v (.ref b')))))))) ([u].map some ++ (some (.ref b') :: σ)) H2 := R5
  obtain ⟨a2, ys, g5, g6, g7, _, kk⟩ := R6.write (i := 0) rfl rfl (.inr ⟨_, rfl⟩)
  simp at g5
  subst g5
  refine ⟨_, ys, u, rfl, rfl, g6, by rw [g7, sizeLine_eq]; omega, m.nx _ σ _ hnx ?_⟩
  have R7 := kk (ys ++ [u]) (us ++ [r]) fun F H' A C o1 o2 => ⟨A ++ C, o1.append o2, Less.refl _⟩
  have R8 := Rl.join (i := i) (ts := ts.set j (.v (.ref b'))) (u := .lst (us ++ [r])) (j := j) (t1 := reT t1 (.lst (ts.set j (.v (.ref b'))))) R7 (by rw [List.getElem?_set_self hlt]) (by rcases ht with rfl | ⟨q, rfl⟩; exact .inl rfl; exact .inr ⟨_, rfl⟩) (List.getElem?_set_self hjl)
  rw [List.set_set, List.set_set] at R8
  have e9 : reT (reT t1 (.lst (ts.set j (.v (.ref b'))))) (.lst (ts.set j (.lst (us ++ [r])))) = reT t1 (.lst (ts.set j (.lst (us ++ [r])))) := by rcases ht with rfl | ⟨q, rfl⟩ <;> rfl
  rw [e9] at R8
  exact R8
end
end Vl
end
section
set_option maxRecDepth 100000
/-! Ws4: a comprehension whose items stay owned. -/
namespace Vl
open PySem L2
section
variable {vs : List Nat} {tg : WG} {elt : WE} {ρ1 : Rho} {Φ : T → Rho → Prop}
theorem lcP_mapT {α : Type} (xs : List α) (im : α → D) (f : α → T) (hz : xs.length ≤ 100000)
    (hs : ∀ a ∈ xs, ∀ (P1 : T → Rho → Prop), (∀ ρ', wipeR ρ' vs = wipeR ρ1 vs → P1 (f a) ρ') → tg (im a) (wipeR ρ1 vs) fun ρ2 => elt ρ2 P1 EX0)
    (k : Φ (.lst (xs.map f)) (restR ρ1 (wipeR ρ1 vs) vs)) : lcP vs tg tYes elt (xs.map im) ρ1 Φ := by
  refine ⟨by simpa using hz, fun pre acc ρ' => ρ' = wipeR ρ1 vs ∧ ∃ n, pre = (xs.take n).map im ∧ n ≤ xs.length ∧ acc = (xs.take n).map f, ⟨rfl, 0, by simp⟩, ?_, ?_⟩
  · rintro pre d post acc ρ' e ⟨rfl, n, rfl, hn, rfl⟩
    have hlt : n < xs.length := by
      have := congrArg List.length e
      simp at this
      omega
    have ed : d = im xs[n] := by
      have := congrArg (fun l => l[n]?) e
      simp [List.getElem?_append, hlt] at this
      have h2 : min n xs.length = n := by omega
      rw [h2] at this
      simpa using this.symm
    subst ed
    have e3 : xs.take (n + 1) = xs.take n ++ [xs[n]] := List.take_succ_eq_append_getElem hlt
    have conv : ∀ {A B : Rho → Prop}, (∀ ρ, A ρ = B ρ) → ∀ {d ρ}, tg d ρ A → tg d ρ B := fun {A B} h {d ρ} h1 => by
      have : A = B := funext h
      rwa [← this]
    refine conv (fun ρ2 => ?_) (hs xs[n] (List.getElem_mem hlt) (fun r ρ4 => wipeR ρ4 vs = wipeR ρ1 vs ∧ ∃ m, (xs.take n).map im ++ [im xs[n]] = (xs.take m).map im ∧ m ≤ xs.length ∧ (xs.take n).map f ++ [r] = (xs.take m).map f) (fun ρ4 h7 => ⟨h7, n + 1, by rw [e3, List.map_append]; rfl, hlt, by rw [e3, List.map_append]; rfl⟩))
    unfold tYes
    simp
  · rintro acc ρ' ⟨rfl, n, e, hn, rfl⟩
    have : n = xs.length := by
      have := congrArg List.length e
      simp at this
      omega
    subst this
    rw [List.take_length]
    exact k
end
end Vl
end
section
set_option maxRecDepth 100000
/-! Ws5: xs.extend(ys[b]), ys an owned list of owned lists of plain things. -/
namespace Vl
open PySem L2
theorem OwnS.pushL {K : PySem.W.Frag} {F H : Hp} {ρ : Rho} {σ : St} {A : List Addr} (o : OwnS K F H σ ρ A) : ∀ {zs : List V} {ds : List D}, DenL K F zs ds → OwnS K F H (zs.map some ++ σ) ((ds.map fun d => some (T.v d)) ++ ρ) A
  | _, _, .nil => o
  | _, _, .cons h q => OwnS.cons (A := []) (.v h) (OwnS.pushL o q)
/-- what a list within a list holds, told beside the slots -/
theorem Rl.innerD {K : PySem.W.Frag} {B F0 H : Hp} {ρ : Rho} {σ : St} {i j : Nat} {t1 : T} {ts : List T} {ds : List D} (R : Rl K B F0 ρ σ H) (hi : ρ[i]? = some (some t1)) (ht : t1 = .lst ts ∨ ∃ a, t1 = .at_ a (.lst ts)) (hj : ts[j]? = some (.lst (ds.map T.v))) :
    ∃ a xs b zs, σ[i]? = some (some (.ref a)) ∧ H a = some (.lst xs) ∧ xs.length = ts.length ∧ xs[j]? = some (.ref b) ∧ H b = some (.lst zs) ∧ zs.length = ds.length ∧ Rl K B F0 ((ds.map fun d => some (T.v d)) ++ ρ) (zs.map some ++ σ) H := by
  obtain ⟨F, A, e0, e1, e2, dm, o, nd, fr⟩ := R
  obtain ⟨v, A1, A2, A3, e3, rfl, o3, _, _⟩ := o.at hi
  obtain ⟨a, xs, b, zs, B', rfl, h1, h2, h3, h4, h5⟩ := own_inner o3 ht hj
  have hd := owns_den h5
  exact ⟨a, xs, b, zs, e3, h1, h2, h3, h4, hd.length, F, _, e0, e1, e2, dm, OwnS.pushL o hd, nd, fr⟩
section
variable {X : Cx} {b e : Expr} {wb we : WE} {pos pa pb pn apos cpos : Pos} {xa ya : Str}
def sExtIx (i k : Nat) (b : WE) : WS := fun ρ Z => (∃ f, onL ρ i f) ∧ (∃ f, onL ρ k f) ∧ b ρ (fun s ρ1 => ∃ n, s = .v (.int n) ∧ ρ1 = ρ ∧ onL ρ k fun ts _ => ∃ (j : Nat) (ds : List D), ixN ts.length n = some j ∧ ts[j]? = some (.lst (ds.map T.v)) ∧ onL ρ i fun us re => us.length + ds.length ≤ 100000 ∧ Z.nx (re (.lst (us ++ ds.map T.v)))) Z.ex
theorem rs_extIx (i k : Nat) (hb : RfE X b wb) (hN : X.N[i]? = some xa := by rfl) (hv : Vis X.env.scope xa := by first | exact Or.inl rfl | exact Or.inr (Or.inl rfl) | exact Or.inr (Or.inr rfl)) (hd1 : (xa == ("__debug__" : Str)) = false := by decide) (hcd : (xa == ("__classdict__" : Str)) = false := by decide)
    (hN2 : X.N[k]? = some ya := by rfl) (hv2 : Vis X.env.scope ya := by first | exact Or.inl rfl | exact Or.inr (Or.inl rfl) | exact Or.inr (Or.inr rfl)) (hd2 : (ya == ("__debug__" : Str)) = false := by decide) (hcd2 : (ya == ("__classdict__" : Str)) = false := by decide)
    (hpi : PlainIx b := by first | exact fun _ _ => rfl | (intro _ _; rfl))
    (hbase : attributeBase (.Name xa pa) "extend" X.env (eval (.Name xa pa) X.env) = eval (.Name xa pa) X.env := by rfl)
    (hfew : ((backTo cpos (starEach [.Subscript (.Name ya pb) b pn] X.env)).all (fun x => !x.1) && (backToKw cpos (keywordEach [] X.env)).all (fun x => x.1.isSome) && decide (([.Subscript (.Name ya pb) b pn] : List Expr).length + ([] : List Keyword).length + (if ([] : List Keyword).isEmpty then 0 else 1) < 30)) = true := by rfl)
    (hs : starEach [.Subscript (.Name ya pb) b pn] X.env = (false, eval (.Subscript (.Name ya pb) b pn) X.env) :: starEach [] X.env := by rfl) (hsw : swapsWith (.Call (.Attribute (.Name xa pa) "extend" apos) [.Subscript (.Name ya pb) b pn] [] cpos) none pos.line X.env = pure false := by rfl) (hline : (apos.endLine == cpos.line) = true := by rfl) :
    RfS1 X (.Expr (.Call (.Attribute (.Name xa pa) "extend" apos) [.Subscript (.Name ya pb) b pn] [] cpos) pos) (sExtIx i k wb) := fun ρ Z h => by
  obtain ⟨⟨f, hf⟩, ⟨f2, hf2⟩, h⟩ := h
  obtain ⟨t0, ts0, hi0, ht0, _⟩ := onL_ok hf
  obtain ⟨t9, ts9, hi9, ht9, _⟩ := onL_ok hf2
  refine s1_of (ps_expr (pe_bm PySem.F.plainAttrs_list PySem.F.slot_list_extend PySem.F.type_list_extend mt_extend (pe_var hN hv hd1 hcd) (pa_cons (pe_ix ix_list (pe_var hN2 hv2 hd2 hcd2) (pe_u X b) hpi) pa_nil hs) hbase hfew hline hs (by rfl)) hsw) fun B F0 σ H De Wx tk R m => ?_
  obtain ⟨v, F, A, e1, ow, eF, _⟩ := Rl.slot (st := []) (vst := []) R rfl hi0
  obtain ⟨a0, xs0, rfl, ex0, _⟩ := own_lst ow ht0
  obtain ⟨v9, F9, A9, e9, ow9, _, _⟩ := Rl.slot (st := []) (vst := []) R rfl hi9
  refine ⟨_, e1, tyV_of ex0, v9, e9, hb _ _ _ h B F0 [] [] σ H _ Wx tk rfl R (fun s ρ1 w H1 g1 R1 => ?_) (fun x ρ1 cls d F H' hx RF xd => m.ex x ρ1 cls d F σ H' hx RF xd)⟩
  obtain ⟨n, rfl, rfl, g2⟩ := g1
  obtain ⟨t2, ts, hk, htk, j, ds, hn, hj, g3⟩ := onL_ok g2
  obtain ⟨t1, us, hi, ht, hz, hnx⟩ := onL_ok g3
  have R2 : Rl X.K B F0 ρ1 σ H1 := R1.drop
  obtain ⟨a, xs, b', zs, k1, k2, k3, k4, k5, k6, R3⟩ := Rl.innerD R2 hk htk hj
  rw [e9] at k1
  cases k1
  have R4 : Rl X.K B F0 ((ds.map T.v).map some ++ ρ1) (zs.map some ++ σ) H1 := by rw [List.map_map]; exact R3
  obtain ⟨a2, ys, g5, g6, g7, _, kk⟩ := R4.write (i := i) (by simp [k6]) hi ht
  rw [e1] at g5
  cases g5
  refine ⟨a, xs, n, .ref b', rfl, R1.headI, SqL.of k2, by unfold atI; rw [k3, hn]; exact k4, _, b', ys, zs, rfl, rfl, g6, k5, by rw [g7, k6, sizeLine_eq]; omega, m.nx _ σ _ hnx ?_⟩
  exact kk (ys ++ zs) (us ++ ds.map T.v) fun F H' A B o1 o2 => ⟨A ++ B, o1.append o2, Less.refl _⟩
end
end Vl
end
section
end
section
set_option maxRecDepth 100000
namespace Vl
open PySem L2
theorem ixN_nat {n i : Nat} (h : i < n) : ixN n (i : Int) = some i := by
  unfold ixN
  rw [if_pos (by omega), if_pos (by omega)]
  simp
theorem ixN_int {n : Nat} {i : Int} (h0 : 0 ≤ i) (h : i < n) : ixN n i = some i.toNat := by
  obtain ⟨j, rfl⟩ : ∃ j : Nat, i = (j : Int) := ⟨i.toNat, by omega⟩
  rw [ixN_nat (by omega)]
  simp
theorem atI_int {α : Type} {xs : List α} {i : Int} (h0 : 0 ≤ i) (h : i < xs.length) : ∃ x, atI xs i = some x ∧ xs[i.toNat]? = some x := by
  obtain ⟨j, rfl⟩ : ∃ j : Nat, i = (j : Int) := ⟨i.toNat, by omega⟩
  have hj : j < xs.length := by omega
  exact ⟨xs[j], at_nat (by simp [hj]), by simp [hj]⟩
/-- 0 .. n-1 -/
def rngI (n : Nat) : List Int := (List.range n).map fun i : Nat => (i : Int)
theorem rngI_mem {n : Nat} {x : Int} : x ∈ rngI n ↔ 0 ≤ x ∧ x < n := by
  unfold rngI
  rw [List.mem_map]
  constructor
  · rintro ⟨i, hi, rfl⟩
    rw [List.mem_range] at hi
    omega
  · rintro ⟨h0, h1⟩
    exact ⟨x.toNat, by rw [List.mem_range]; omega, by omega⟩
theorem rngI_len {n : Nat} : (rngI n).length = n := by simp [rngI]
theorem rng_map {n : Nat} : ((List.range n).map fun i : Nat => D.int i) = (rngI n).map D.int := by simp [rngI, List.map_map, Function.comp_def]
theorem rngI_nodup {n : Nat} : (rngI n).Nodup := by
  unfold rngI
  rw [List.Nodup, List.pairwise_map]
  exact List.Pairwise.imp (fun h e => h (by omega)) List.nodup_range
/-- a lot, as a dict -/
def dicL (xs : List Int) : List (Key × D) := xs.map fun i => (.inl i, .bl true)
theorem dicL_keys (xs : List Int) : (dicL xs).map (·.1) = xs.map fun i => (.inl i : Key) := by simp [dicL, List.map_map, Function.comp_def]
theorem dicL_walk (xs : List Int) : ((dicL xs).map fun q => kD q.1) = xs.map D.int := by simp [dicL, List.map_map, Function.comp_def, kD]
theorem dicL_get (xs : List Int) (i : Int) : kget (dicL xs) (.inl i) = if i ∈ xs then some (.bl true) else none := by
  induction xs with
  | nil => rfl
  | cons x xs ih =>
    unfold kget dicL at ih ⊢
    rw [List.map_cons, List.find?_cons]
    by_cases e : x = i
    · subst e; simp
    · have hne : ¬ ((Sum.inl x : Key) = .inl i) := fun z => e (by injection z)
      simp only [hne, decide_false]
      rw [ih]
      have : (i ∈ x :: xs) ↔ i ∈ xs := by
        rw [List.mem_cons]
        exact ⟨fun h => h.resolve_left fun z => e z.symm, .inr⟩
      simp only [this]
theorem dicL_is (xs : List Int) (i : Int) : (kget (dicL xs) (.inl i)).isSome = decide (i ∈ xs) := by
  rw [dicL_get]
  by_cases h : i ∈ xs <;> simp [h]
theorem dicL_nodup {xs : List Int} (h : xs.Nodup) : ((dicL xs).map (·.1)).Nodup := by
  rw [dicL_keys, List.Nodup, List.pairwise_map]
  exact List.Pairwise.imp (fun h e => h (by injection e)) h
theorem dicL_drop (xs : List Int) (i : Int) : kdrop (dicL xs) (.inl i) = dicL (xs.filter fun x => decide (x ≠ i)) := by
  unfold kdrop dicL
  rw [List.filter_map]
  congr 1
  refine List.filter_congr fun x _ => ?_
  simp
/-- what the letters back into a lot come to, in parts of 2520 -/
def inS (as : List Arw) (p : Int) (xs : List Int) : Int := (((stepsOf as p).filter fun a => decide (a.2.2.2 ∈ xs)).map fun a => 2520 / max a.2.2.1 1).sum
def shortL (as : List Arw) (xs : List Int) : List Int := xs.filter fun p => decide (inS as p xs < 2520)
def optD : Option Int → D
  | some p => .int p
  | none => .non
/-- a row of things for 0 .. n-1, one changed -/
theorem rng_set {α : Type} {n : Nat} {f : Int → α} {p : Int} {x : α} (h0 : 0 ≤ p) (h1 : p < n) : ((rngI n).map f).set p.toNat x = (rngI n).map fun q => if q = p then x else f q := by
  unfold rngI
  rw [List.map_map, List.map_map, set_map_range n p.toNat _ x (by omega)]
  refine List.map_congr_left fun i hi => ?_
  simp only [Function.comp]
  by_cases e : i = p.toNat
  · rw [if_pos e, if_pos (by omega)]
  · rw [if_neg e, if_neg (by omega)]
theorem rng_at {α : Type} {n : Nat} {f : Int → α} {p : Int} (h0 : 0 ≤ p) (h1 : p < n) : atI ((rngI n).map f) p = some (f p) := by
  obtain ⟨x, hx, hx2⟩ := atI_int (xs := (rngI n).map f) h0 (by simpa [rngI_len] using h1)
  rw [hx, ← hx2]
  unfold rngI
  have : p.toNat < n := by omega
  simp [this]
  congr 1
  omega
theorem noL_int {k : Bool} {xs : List Int} : D.noL k (xs.map D.int) = true := by
  rw [D.noL_all, List.all_map, List.all_eq_true]
  intro x _
  rfl
end Vl
end
section
set_option maxRecDepth 100000
namespace Vl
open PySem L2
/-- a row stands before another: an earlier place, or a letter before the other's -/
def Bef (a b : Arw) : Prop := a.1 < b.1 ∨ (a.1 = b.1 ∧ ∃ c d : Nat, a.2.1 = chr c ∧ b.2.1 = chr d ∧ c < d)
theorem Bef.lt {a b : Arw} (h : Bef a b) : ltK (aK a) (aK b) = true := by
  unfold ltK aK
  simp only [List.map_cons, List.map_nil, kI]
  rw [PyProof.Rows.lex_cons]
  rcases h with h | ⟨h, c, d, e1, e2, h2⟩
  · have : PyProof.Rows.itemOrd.blt (.inl a.1) (.inl b.1) = true := by show decide (a.1 < b.1) = true; simp [h]
    rw [this]; rfl
  · have i1 : PyProof.Rows.itemOrd.blt (.inl a.1) (.inl b.1) = false := by show decide (a.1 < b.1) = false; simp [h]
    have i2 : PyProof.Rows.itemOrd.blt (.inl b.1) (.inl a.1) = false := by show decide (b.1 < a.1) = false; simp [h]
    rw [i1, i2, PyProof.Rows.lex_cons, e1, e2]
    have i3 : PyProof.Rows.itemOrd.blt (.inr (chr c).cps.toList) (.inr (chr d).cps.toList) = true := by
      show decide ([c] < [d]) = true
      simp [List.cons_lt_cons_iff, h2]
    rw [i3]
    rfl
theorem Bef.ne {a b : Arw} (h : Bef a b) : (a.1, a.2.1) ≠ (b.1, b.2.1) := by
  intro e
  simp only [Prod.mk.injEq] at e
  rcases h with h | ⟨h, c, d, e1, e2, h2⟩
  · omega
  · have := chr_inj (e1.symm.trans (e.2.trans e2))
    omega
/-- rows for the places below k -/
structure PreG (n : Int) (m : Nat) (k : Int) (as : List Arw) : Prop where
  ok : ∀ a ∈ as, ArwOk n a ∧ a.1 < k
  bef : as.Pairwise Bef
  all : ∀ i : Int, 0 ≤ i → i < k → ∃ a ∈ as, a.1 = i
  len : (as.length : Int) ≤ k * m
theorem PreG.good {n : Int} {m : Nat} {as : List Arw} (h : PreG n m n as) (n1 : 1 ≤ n) (n2 : n ≤ 12) (hm : n * m ≤ 60) : Good n as :=
  ⟨n1, n2, by
    obtain ⟨a, ha, _⟩ := h.all 0 (by omega) (by omega)
    exact List.length_pos_of_mem ha, by have := h.len; omega, fun a ha => (h.ok a ha).1, by
    rw [List.pairwise_map]
    exact h.bef.imp fun h => h.lt, by
    rw [List.Nodup, List.pairwise_map]
    exact h.bef.imp fun h => h.ne, h.all⟩
theorem asD_tk (as : List Arw) : (T.lst (as.map fun a => T.v (tK (aK a)))).d = .lst (as.map fun a => tK (aK a)) := by
  rw [show (as.map fun a => T.v (tK (aK a))) = (as.map fun a => tK (aK a)).map T.v by simp [List.map_map, Function.comp_def], lst_vd]
theorem tK_aK (a : Arw) : tK (aK a) = .tup [.int a.1, .str a.2.1, .int a.2.2.1, .int a.2.2.2] := rfl
theorem any_int {xs : List Int} {g : Int} : ((xs.map D.int).any (deq (.int g))) = decide (g ∈ xs) := by
  rw [Bool.eq_iff_iff, List.any_eq_true, decide_eq_true_eq]
  constructor
  · rintro ⟨d, hd, e⟩
    obtain ⟨x, hx, rfl⟩ := List.mem_map.mp hd
    have e' := deq_iff.mp e
    rw [D.int.injEq] at e'
    rw [e']; exact hx
  · intro h
    exact ⟨.int g, List.mem_map.mpr ⟨g, h, rfl⟩, deq_self⟩
def edD (a : Arw) : D := .tup [.str a.2.1, .int a.2.2.1, .int a.2.2.2]
theorem rngI_split {n : Nat} {pre post : List Int} {p : Int} (h : rngI n = pre ++ p :: post) : p = (pre.length : Int) ∧ pre.length < n := by
  have hl := congrArg List.length h
  simp [rngI_len] at hl
  have h2 := congrArg (fun l => l[pre.length]?) h
  unfold rngI at h2
  simp at h2
  have : pre.length < n := by omega
  simp [this] at h2
  exact ⟨h2.symm, this⟩
/-- within a place: the letters below c are told -/
structure MidG (n : Int) (m : Nat) (p : Int) (c : Nat) (k : Nat) (as : List Arw) : Prop where
  ok : ∀ a ∈ as, ArwOk n a ∧ a.1 ≤ p
  bef : as.Pairwise Bef
  all : ∀ i : Int, 0 ≤ i → i < p → ∃ a ∈ as, a.1 = i
  cur : ∀ a ∈ as, a.1 = p → ∃ d : Nat, a.2.1 = chr d ∧ d < c
  now : 0 < k → ∃ a ∈ as, a.1 = p
  len : (as.length : Int) ≤ p * m + k
theorem PreG.mid {n : Int} {m : Nat} {p : Int} {c : Nat} {as : List Arw} (h : PreG n m p as) : MidG n m p c 0 as :=
  ⟨fun a ha => ⟨(h.ok a ha).1, by have := (h.ok a ha).2; omega⟩, h.bef, h.all, fun a ha e => by have := (h.ok a ha).2; omega, fun h => absurd h (by decide), by have := h.len; omega⟩
theorem MidG.step {n : Int} {m : Nat} {p : Int} {c k : Nat} {as : List Arw} (h : MidG n m p c k as) {pay to : Int} (p0 : 0 ≤ p) (p1 : p < n) (y0 : 0 ≤ pay) (y1 : pay ≤ 9) (t0 : 0 ≤ to) (t1 : to < n) (c0 : 97 ≤ c) (c1 : c ≤ 122) : MidG n m p (c + 1) (k + 1) (as ++ [(p, chr c, pay, to)]) := by
  refine ⟨fun a ha => ?_, ?_, fun i h0 h1 => ?_, fun a ha e => ?_, fun _ => ⟨(p, chr c, pay, to), List.mem_append_right _ List.mem_cons_self, rfl⟩, ?_⟩
  · rcases List.mem_append.mp ha with z | z
    · exact h.ok a z
    · simp at z; subst z
      exact ⟨⟨p0, p1, ⟨c, rfl, c0, c1⟩, y0, y1, t0, t1⟩, Int.le_refl _⟩
  · refine List.pairwise_append.mpr ⟨h.bef, List.pairwise_singleton _ _, fun a ha b hb => ?_⟩
    simp at hb; subst hb
    by_cases e : a.1 = p
    · obtain ⟨d, h1, h2⟩ := h.cur a ha e
      exact .inr ⟨e, d, c, h1, rfl, h2⟩
    · have := (h.ok a ha).2
      exact .inl (by show a.1 < p; omega)
  · obtain ⟨a, ha, e⟩ := h.all i h0 h1
    exact ⟨a, List.mem_append_left _ ha, e⟩
  · rcases List.mem_append.mp ha with z | z
    · obtain ⟨d, h1, h2⟩ := h.cur a z e
      exact ⟨d, h1, by omega⟩
    · simp at z; subst z
      exact ⟨c, rfl, by omega⟩
  · have := h.len
    simp
    omega
theorem MidG.done {n : Int} {m : Nat} {p : Int} {c k : Nat} {as : List Arw} (h : MidG n m p c k as) (h0 : 0 < k) (hk : k ≤ m) : PreG n m (p + 1) as := by
  refine ⟨fun a ha => ⟨(h.ok a ha).1, by have := (h.ok a ha).2; omega⟩, h.bef, fun i h0' h1 => ?_, ?_⟩
  · by_cases e : i = p
    · subst e; exact h.now h0
    · exact h.all i h0' (by omega)
  · have := h.len
    rw [Int.add_mul]
    omega
end Vl
end
section
set_option maxRecDepth 100000
namespace Vl
open PySem L2
def cd_pot : WS :=
  sSeq (sSet 1 (wFrz (wLc [2] (iVal (wSl (wVar 0) (oNil) (oSome (wD (.int 63))))) (gName 2) (tYes) (wB bInt (aCons (wVar 2) (aNil))))))
  (sSeq (sSet 3 (wLc [2] (iVal (wVar 1)) (gName 2) (tVal (wCmp .GtE (wB bAbs (aCons (wVar 2) (aNil))) (wBin .Pow (wD (.int 10)) (wD (.int 18))))) (wB bAbs (aCons (wVar 2) (aNil)))))
  (sSeq (sSet 4 (wFrz (wBin .Add (wLc [2] (iVal (wVar 1)) (gName 2) (tVal (wCmp .Lt (wB bAbs (aCons (wVar 2) (aNil))) (wBin .Pow (wD (.int 10)) (wD (.int 18))))) (wBin .Mod (wB bInt (aCons (wVar 2) (aNil))) (wD (.int 1000000007)))) (wLst (aCons (wBin .Add (wB bLen (aCons (wVar 1) (aNil))) (wD (.int 1))) (aNil))))))
  (sSeq (sRet (wLstT (atCons (wMov 3) (atCons (wVar 4) (atCons (wD (.int 0)) (atCons (wBin .Mod (wB bInt (aCons (wB bSum (aCons (wVar 4) (aNil))) (aNil))) (wD (.int 999983))) (atNil)))))))
  (sNil))))
def potT (gs ss : List Int) (a b : Int) : T := .lst [.lst ((gs.map D.int).map T.v), .v (.lst (ss.map D.int)), .v (.int a), .v (.int b)]
def Pot (u : T) : Prop := ∃ gs ss a b, u = potT gs ss a b ∧ gs.length ≤ 63 ∧ (∀ g ∈ gs, 0 ≤ g) ∧ 1 ≤ ss.length ∧ ss.length ≤ 64 ∧ 0 ≤ a
theorem pot_L {u : T} (h : Pot u) : ∃ ts, u = .lst ts ∧ Pot (.lst ts) := by
  obtain ⟨gs, ss, a, b, rfl, h1⟩ := h
  exact ⟨_, rfl, gs, ss, a, b, rfl, h1⟩
def sp_pot : Sp := fun ds Q _ => ∃ ns : List Int, ds = [.lst (ns.map D.int)] ∧ ns.length ≤ 63 ∧ ∀ u, Pot u → Q u
theorem cut_63 {xs : List D} (h : xs.length ≤ 63) : cutD xs none (some 63) = xs := by
  unfold cutD
  rw [HT.sIx_none, show (some (63 : Int)) = some ((63 : Nat) : Int) from rfl, HT.sIx_nat, List.drop_zero, List.take_of_length_le (by omega)]
theorem wp_pot (ds : List D) (Q : T → Prop) (Qx : Xn → Prop) (h : sp_pot ds Q Qx) : cd_pot ((ds.map fun d => some (T.v d)) ++ List.replicate (5 - ds.length) none) { nx := fun _ => Q (.v .non), rt := fun r _ => Q r, ex := fun x _ => Qx x } := by
  obtain ⟨ns, rfl, hl, q⟩ := h
  change cd_pot [some (.v (.lst (ns.map D.int))), none, none, none, none] _
  unfold cd_pot
  ((try dsimp only); rw [sSeq_def]; simp only [sSet, wFrz, wLc, iVal, wSl, wVar, slot, oNil, oSome, wD, T.v.injEq, D.int.injEq, T.d_v, slW_l, lst_vd, walkW_l, exists_eq_left'])
  rw [cut_63 (by simpa using hl)]
  refine lcP_map ns D.int D.int (by omega) (fun x hx P1 h1 => ?_) ?_
  · simp only [gName, wB, aCons, wVar, wipeR, List.set_cons_succ, List.set_cons_zero, slot, aNil, T.d_v, bInt_i]
    exact h1 _ rfl
  simp only [wipeR, List.set_cons_succ, List.set_cons_zero, restR_cons, slot, keepV_n, restR_nil, lst_vd]
  ((try dsimp only); rw [sSeq_def]; simp only [sSet, wLc, iVal, wVar, slot, T.d_v, walkW_l])
  refine lcP_fm ns D.int (fun x => decide (10 ^ 18 ≤ (if x < 0 then -x else x))) (fun x => .int (if x < 0 then -x else x)) (by omega) (fun x hx P1 P0 h1 h0 => ?_) ?_
  · simp only [gName, tVal, wCmp, wB, aCons, wVar, wipeR, List.set_cons_succ, List.set_cons_zero, slot, aNil, T.d_v, wBin, wD, T.v.injEq, D.bl.injEq, bAbs_i, exists_eq_left', cmpW_ge, binW_p, geW_i]
    refine ⟨by unfold CPow; decide, fun e => ?_, fun e => ?_⟩
    · exact h1 _ rfl e
    · exact h0 _ rfl e
  simp only [wipeR, List.set_cons_succ, List.set_cons_zero, restR_cons, slot, keepV_n, restR_nil]
  ((try dsimp only); rw [sSeq_def]; simp only [sSet, wFrz, wBin, wLc, iVal, wVar, slot, T.d_v, wLst, aCons, wB, aNil, wD, lenk_1, List.map_cons, List.map_nil, lst_v1, true_and, walkW_l])
  refine lcP_fm ns D.int (fun x => decide ((if x < 0 then -x else x) < 10 ^ 18)) (fun x => .int (x % 1000000007)) (by omega) (fun x hx P1 P0 h1 h0 => ?_) ?_
  · simp only [gName, tVal, wCmp, wB, aCons, wVar, wipeR, List.set_cons_succ, List.set_cons_zero, slot, aNil, T.d_v, wBin, wD, T.v.injEq, D.bl.injEq, bInt_i, binW_r, exists_eq_left', cmpW_lt, binW_p, bAbs_i, ltW_i]
    refine ⟨by unfold CPow; decide, fun e => ?_, fun e => ?_⟩
    · exact ⟨by decide, h1 _ rfl e⟩
    · exact h0 _ rfl e
  have e1 : (ns.filter fun x => decide ((if x < 0 then -x else x) < 10 ^ 18)).map (fun x => D.int (x % 1000000007)) = ((ns.filter fun x => decide ((if x < 0 then -x else x) < 10 ^ 18)).map fun x => x % 1000000007).map D.int := by rw [List.map_map]; rfl
  have e2 : (ns.filter fun x => decide (10 ^ 18 ≤ if x < 0 then -x else x)).map (fun x => D.int (if x < 0 then -x else x)) = ((ns.filter fun x => decide (10 ^ 18 ≤ if x < 0 then -x else x)).map fun x => if x < 0 then -x else x).map D.int := by rw [List.map_map]; rfl
  have l1 : ((ns.filter fun x => decide ((if x < 0 then -x else x) < 10 ^ 18)).map fun x => x % 1000000007).length ≤ 63 := by rw [List.length_map]; exact Nat.le_trans (List.length_filter_le _ _) hl
  have l2 : ((ns.filter fun x => decide (10 ^ 18 ≤ if x < 0 then -x else x)).map fun x => if x < 0 then -x else x).length ≤ 63 := by rw [List.length_map]; exact Nat.le_trans (List.length_filter_le _ _) hl
  have n2 : ∀ g ∈ (ns.filter fun x => decide (10 ^ 18 ≤ if x < 0 then -x else x)).map (fun x => if x < 0 then -x else x), 0 ≤ g := fun g hg => by
    obtain ⟨x, _, rfl⟩ := List.mem_map.mp hg
    split <;> omega
  rw [e1, e2]
  generalize (ns.filter fun x => decide ((if x < 0 then -x else x) < 10 ^ 18)).map (fun x => x % 1000000007) = ss at l1
  generalize (ns.filter fun x => decide (10 ^ 18 ≤ if x < 0 then -x else x)).map (fun x => if x < 0 then -x else x) = gs at l2 n2
  simp only [wipeR, List.set_cons_succ, List.set_cons_zero, restR_cons, slot, keepV_n, restR_nil, lst_vd, binW_al, List.length_map, bLen_l, T.d_v, binW_ai]
  refine ⟨by omega, by simp; omega, ?_⟩
  rw [show ss.map D.int ++ [D.int (ns.length + 1)] = (ss ++ [(ns.length : Int) + 1]).map D.int by simp]
  ((try dsimp only); rw [sSeq_def]; simp only [sRet, wLstT, atCons, wMov, slot, wVar, List.set_cons_succ, List.set_cons_zero, wD, wBin, wB, aCons, aNil, T.d_v, atNil, lenk_4, true_and, bSum_l, bInt_i, binW_r])
  exact ⟨_, rfl, by decide, q _ ⟨gs, _, _, _, rfl, l2, n2, by simp, by simp; omega, by decide⟩⟩
theorem ln_pot : ∀ ds Q Qx, sp_pot ds Q Qx → ds.length = 1 := by rintro ds Q Qx ⟨ns, rfl, _⟩; rfl
end Vl
end
section
set_option maxRecDepth 100000
namespace Vl
open PySem L2
def cd_pdraw : WS :=
  sSeq (sSet 2 (wFrz (wIxO 0 (wD (.int 2)))))
  (sSeq (sPut 0 (wD (.int 2)) (wFrz (wBin .Add (wVar 2) (wD (.int 1)))))
  (sSeq (sIf (tVal (wCmp .Gt (wLenOO 0 0) (wD (.int 0)))) (sSeq (sSet 3 (wFrz (wIxOO 0 0 0)))
  (sSeq (sPutOO 0 0 0 (wFrz (wBin .FloorDiv (wVar 3) (wVar 1))))
  (sSeq (sIf (tVal (wCmp .Lt (wVar 3) (wVar 1))) (sSeq (sPopOO 0 0 0)
  (sNil)) (sNil))
  (sSeq (sRet (wBin .Mod (wB bInt (aCons (wVar 3) (aNil))) (wVar 1)))
  (sNil))))) (sNil))
  (sSeq (sSet 4 (wFrz (wBin .Add (wBin .Add (wBin .Mult (wIx (wIxO 0 (wD (.int 1))) (wBin .Mod (wB bInt (aCons (wVar 2) (aNil))) (wB bLen (aCons (wIxO 0 (wD (.int 1))) (aNil))))) (wD (.int 7919))) (wBin .Mult (wD (.int 104729)) (wVar 2))) (wBin .Mult (wIxO 0 (wD (.int 3))) (wD (.int 31))))))
  (sSeq (sSet 3 (wFrz (wBin .Mod (wB bInt (aCons (wBin .Add (wBin .Mult (wVar 4) (wD (.int 48271))) (wD (.int 11))) (aNil))) (wD (.int 2147483647)))))
  (sSeq (sSet 3 (wFrz (wBin .Mod (wB bInt (aCons (wBin .Mult (wVar 3) (wBin .Add (wBin .FloorDiv (wVar 3) (wD (.int 1009))) (wD (.int 69621)))) (aNil))) (wD (.int 2147483629)))))
  (sSeq (sSet 3 (wFrz (wBin .Mod (wB bInt (aCons (wBin .Add (wBin .Mult (wVar 3) (wBin .Add (wBin .FloorDiv (wVar 3) (wD (.int 2003))) (wD (.int 40692)))) (wVar 2)) (aNil))) (wD (.int 2147483399)))))
  (sSeq (sRet (wBin .Mod (wB bInt (aCons (wBin .FloorDiv (wVar 3) (wD (.int 64))) (aNil))) (wVar 1)))
  (sNil))))))))
def sp_pdraw : SpM := fun u ds Q => ∃ many : Int, ds = [.int many] ∧ 0 < many ∧ many < 1073741824 ∧ Pot u ∧ ∀ r u', 0 ≤ r → r < many → Pot u' → Q (.v (.int r)) u'
theorem wp_pdraw (a : Addr) (u : T) (ds : List D) (Q : T → T → Prop) (h : sp_pdraw u ds Q) : cd_pdraw (some (.at_ a u) :: ((ds.map fun d => some (T.v d)) ++ List.replicate (5 - (ds.length + 1)) none)) { nx := fun ρ => ∃ u', slot ρ 0 = some (.at_ a u') ∧ Q (.v .non) u', rt := fun r ρ => ∃ u', slot ρ 0 = some (.at_ a u') ∧ Q r u' } := by
  obtain ⟨many, rfl, m0, m1, ⟨gs, ss, t1, t2, rfl, gl, gn, s1, s2, h1⟩, q⟩ := h
  change cd_pdraw [some (.at_ a (potT gs ss t1 t2)), some (.v (.int many)), none, none, none] _
  unfold cd_pdraw potT
  ((try dsimp only); rw [sSeq_def]; simp only [sSet, wFrz, wIxO, slot, Option.some.injEq, exists_eq', wD, T.v.injEq, D.int.injEq, T.d_v, List.set_cons_succ, List.set_cons_zero, exists_eq_left', atI_2, true_and])
  ((try dsimp only); rw [sSeq_def]; simp only [sPut, onL, slot, List.set_cons_zero, ex_app2, wFrz, wBin, wVar, wD, T.d_v, T.v.injEq, D.int.injEq, exists_eq_left', ixl_2, Option.some.injEq, List.set_cons_succ, binW_ai, true_and])
  ((try dsimp only); rw [sSeq_def]; simp only [sIf, tVal, wCmp, wLenOO, onLL, onL, slot, ixl_0, Option.some.injEq, wD, T.d_v, T.v.injEq, D.bl.injEq, sNil, exists_eq_left', cmpW_gt, gtW_i])
  refine ⟨0, _, rfl, rfl, fun e => ?_, fun e => ?_⟩
  · cases gs with
    | nil => simp at e
    | cons g gs =>
      have g0 := gn g (by simp)
      ((try dsimp only); (try simp only [List.map_cons]); rw [sSeq_def]; simp only [sSet, wFrz, wIxOO, onLL, onL, slot, ixl_0, Option.some.injEq, T.d_v, List.set_cons_succ, List.set_cons_zero])
      refine ⟨0, _, rfl, rfl, .int g, by rw [atI_0], ?_⟩
      ((try dsimp only); rw [sSeq_def]; simp only [sPutOO, onL, slot, List.set_cons_zero, ex_app2, wFrz, wBin, wVar, T.d_v, onLL, ixl_0, Option.some.injEq, binW_d, true_and])
      refine ⟨.inl ⟨m0, m1⟩, 0, _, rfl, rfl, 0, by unfold ixN; simp, ?_⟩
      have q0 : 0 ≤ g / many := Int.ediv_nonneg g0 (by omega)
      simp only [List.set_cons_zero]
      ((try dsimp only); rw [sSeq_def]; simp only [sIf, tVal, wCmp, wVar, slot, T.d_v, T.v.injEq, D.bl.injEq, sNil, exists_eq_left', cmpW_lt, ltW_i])
      refine ⟨fun e => ?_, fun e => ?_⟩
      · ((try dsimp only); rw [sSeq_def]; simp only [sPopOO, onLL, onL, slot, ixl_0, Option.some.injEq, sNil, List.set_cons_zero])
        refine ⟨0, _, rfl, rfl, 0, by unfold seqIndex?; simp, by simp, ⟨by decide, by decide⟩, ?_⟩
        simp only [List.eraseIdx_cons_zero, List.set_cons_zero]
        ((try dsimp only); rw [sSeq_def]; simp only [sRet, wBin, wB, aCons, wVar, slot, aNil, T.d_v, Option.some.injEq, bInt_i, binW_r])
        exact ⟨m0, _, rfl, q _ _ (Int.emod_nonneg _ (by omega)) (Int.emod_lt_of_pos _ m0) ⟨gs, ss, _, t2, rfl, by simp at gl; omega, fun x hx => gn x (by simp [hx]), s1, s2, by omega⟩⟩
      · ((try dsimp only); rw [sSeq_def]; simp only [sRet, wBin, wB, aCons, wVar, slot, aNil, T.d_v, Option.some.injEq, bInt_i, binW_r])
        exact ⟨m0, _, rfl, q _ _ (Int.emod_nonneg _ (by omega)) (Int.emod_lt_of_pos _ m0) ⟨g / many :: gs, ss, _, t2, rfl, by simpa using gl, fun x hx => by
          rcases List.mem_cons.mp hx with rfl | hx
          · exact q0
          · exact gn x (by simp [hx]), s1, s2, by omega⟩⟩
  · have ge : gs = [] := by cases gs with
      | nil => rfl
      | cons _ _ => simp at e
    subst ge
    have nn : (ss.map D.int).length = ss.length := List.length_map ..
    have d0 : 0 ≤ t1 % (ss.length : Int) := Int.emod_nonneg _ (by omega)
    have d1 : t1 % (ss.length : Int) < ss.length := Int.emod_lt_of_pos _ (by omega)
    obtain ⟨x, hx, hx2⟩ := atI_int (xs := ss.map D.int) d0 (by rw [nn]; exact d1)
    obtain ⟨c, rfl⟩ : ∃ c, x = .int c := by
      rw [List.getElem?_map] at hx2
      cases h3 : ss[(t1 % (ss.length : Int)).toNat]? with
      | none => rw [h3] at hx2; cases hx2
      | some c => rw [h3] at hx2; cases hx2; exact ⟨c, rfl⟩
    ((try dsimp only); (try simp only [List.map_nil]); rw [sSeq_def]; simp only [sSet, wFrz, wBin, wIx, wIxO, slot, Option.some.injEq, exists_eq', wD, T.v.injEq, D.int.injEq, wB, aCons, wVar, aNil, T.d_v, List.set_cons_succ, List.set_cons_zero, exists_eq_left', atI_3, binW_m, true_and, atI_1, bLen_l, nn, bInt_i, binW_r, ixW_l])
    refine ⟨by omega, by omega, _, hx, ?_⟩
    simp only [binW_m, T.d_v, binW_ai]
    refine ⟨.inl (.inr (by decide)), .inl (.inl (by decide)), .inl (.inr (by decide)), ?_⟩
    ((try dsimp only); rw [sSeq_def]; simp only [sSet, wFrz, wBin, wB, aCons, wVar, slot, wD, T.d_v, aNil, List.set_cons_succ, List.set_cons_zero, binW_m, binW_ai, bInt_i, binW_r])
    refine ⟨.inl (.inr (by decide)), by decide, ?_⟩
    have a0 := Int.emod_nonneg ((c * 7919 + 104729 * t1 + t2 * 31) * 48271 + 11) (show (2147483647 : Int) ≠ 0 by decide)
    have a1 := Int.emod_lt_of_pos ((c * 7919 + 104729 * t1 + t2 * 31) * 48271 + 11) (show (0 : Int) < 2147483647 by decide)
    generalize ((c * 7919 + 104729 * t1 + t2 * 31) * 48271 + 11) % 2147483647 = y at a0 a1 ⊢
    ((try dsimp only); rw [sSeq_def]; simp only [sSet, wFrz, wBin, wB, aCons, wVar, slot, wD, T.d_v, aNil, List.set_cons_succ, List.set_cons_zero, binW_d, binW_ai, binW_m, bInt_i, binW_r])
    refine ⟨.inl ⟨by decide, by decide⟩, .inl (.inl (by omega)), by decide, ?_⟩
    have b0 := Int.emod_nonneg (y * (y / 1009 + 69621)) (show (2147483629 : Int) ≠ 0 by decide)
    have b1 := Int.emod_lt_of_pos (y * (y / 1009 + 69621)) (show (0 : Int) < 2147483629 by decide)
    generalize (y * (y / 1009 + 69621)) % 2147483629 = z at b0 b1 ⊢
    ((try dsimp only); rw [sSeq_def]; simp only [sSet, wFrz, wBin, wB, aCons, wVar, slot, wD, T.d_v, aNil, List.set_cons_succ, List.set_cons_zero, binW_d, binW_ai, binW_m, bInt_i, binW_r])
    refine ⟨.inl ⟨by decide, by decide⟩, .inl (.inl (by omega)), by decide, ?_⟩
    ((try dsimp only); rw [sSeq_def]; simp only [sRet, wBin, wB, aCons, wVar, slot, wD, T.d_v, aNil, Option.some.injEq, binW_d, bInt_i, binW_r])
    refine ⟨.inl ⟨by decide, by decide⟩, m0, _, rfl, q _ _ (Int.emod_nonneg _ (by omega)) (Int.emod_lt_of_pos _ m0) ⟨[], ss, _, t2, rfl, by simp, fun x hx => (by cases hx), s1, s2, by omega⟩⟩
theorem ln_pdraw : ∀ u ds Q, sp_pdraw u ds Q → ds.length + 1 = 2 := by rintro u ds Q ⟨many, rfl, _⟩; rfl
end Vl
end
section
set_option maxRecDepth 100000
namespace Vl
open PySem L2
def D.fineK (k : Nat) (d : D) : Prop := d.sane = true ∧ d.deep ≤ k
theorem D.fineK.up {k m : Nat} {d : D} (h : d.fineK k) (hm : k ≤ m) : d.fineK m := ⟨h.1, Nat.le_trans h.2 hm⟩
theorem D.fineK.fine {k : Nat} {d : D} (h : d.fineK k) (hk : k ≤ 64 := by decide) : d.fine := ⟨h.1, Nat.le_trans h.2 hk⟩
theorem Bef.of {a b : Arw} (h : ltK (aK a) (aK b) = true) (ha : ∃ c : Nat, a.2.1 = chr c) (hb : ∃ c : Nat, b.2.1 = chr c) (hn : (a.1, a.2.1) ≠ (b.1, b.2.1)) : Bef a b := by
  obtain ⟨c, hc⟩ := ha
  obtain ⟨d, hd⟩ := hb
  unfold ltK aK at h
  simp only [List.map_cons, List.map_nil, kI] at h
  rw [PyProof.Rows.lex_cons, PyProof.Rows.lex_cons] at h
  have b1 : PyProof.Rows.itemOrd.blt (.inl a.1) (.inl b.1) = decide (a.1 < b.1) := rfl
  have b2 : PyProof.Rows.itemOrd.blt (.inl b.1) (.inl a.1) = decide (b.1 < a.1) := rfl
  have b3 : PyProof.Rows.itemOrd.blt (.inr a.2.1.cps.toList) (.inr b.2.1.cps.toList) = decide (c < d) := by
    rw [hc, hd]
    show decide ([c] < [d]) = _
    simp [List.cons_lt_cons_iff]
  have b4 : PyProof.Rows.itemOrd.blt (.inr b.2.1.cps.toList) (.inr a.2.1.cps.toList) = decide (d < c) := by
    rw [hc, hd]
    show decide ([d] < [c]) = _
    simp [List.cons_lt_cons_iff]
  rw [b1, b2, b3, b4] at h
  by_cases e1 : a.1 < b.1
  · exact .inl e1
  by_cases e2 : b.1 < a.1
  · simp [e1, e2] at h
  have e3 : a.1 = b.1 := by omega
  by_cases e4 : c < d
  · exact .inr ⟨e3, c, d, hc, hd, e4⟩
  by_cases e5 : d < c
  · simp [e1, e2, e4, e5] at h
  have : c = d := by omega
  subst this
  exact absurd (by rw [e3, hc, hd]) hn
theorem ArwOk.chr {n : Int} {a : Arw} (h : ArwOk n a) : ∃ c : Nat, a.2.1 = Vl.chr c := let ⟨c, e, _⟩ := h.l; ⟨c, e⟩
theorem Good.bef {n : Int} {as : List Arw} (ok : Good n as) : as.Pairwise Bef := by
  have h1 := List.pairwise_map.mp ok.up
  have h2 : as.Pairwise fun a b => (a.1, a.2.1) ≠ (b.1, b.2.1) := List.pairwise_map.mp ok.tw
  have h3 := List.pairwise_and_iff.mpr ⟨h1, h2⟩
  exact h3.imp_of_mem fun {a b} ha hb h => Bef.of h.1 (ok.ok a ha).chr (ok.ok b hb).chr h.2
theorem Good.of {n : Int} {as : List Arw} (n1 : 1 ≤ n) (n2 : n ≤ 12) (l2 : as.length ≤ 60) (ok : ∀ a ∈ as, ArwOk n a) (bef : as.Pairwise Bef) (all : ∀ i : Int, 0 ≤ i → i < n → ∃ a ∈ as, a.1 = i) : Good n as :=
  ⟨n1, n2, by
    obtain ⟨a, ha, _⟩ := all 0 (by omega) (by omega)
    exact List.length_pos_of_mem ha, l2, ok, by
    rw [List.pairwise_map]
    exact bef.imp fun h => h.lt, by
    rw [List.Nodup, List.pairwise_map]
    exact bef.imp fun h => h.ne, all⟩
end Vl
end
section
set_option maxRecDepth 100000
namespace Vl
open PySem L2
def cd_lparts : WS :=
  sSeq (sSet 4 (wFrz (wBin .Add (wD (.int 1)) (wCallMS (sp_pdraw) 0 (aCons (wVar 1) (aNil))))))
  (sSeq (sSet 5 (wFrz (wCallMS (sp_pdraw) 0 (aCons (wD (.int 4)) (aNil)))))
  (sSeq (sSet 6 (wLst (aNil)))
  (sSeq (sFor (iRng1 (aCons (wVar 4) (aNil))) (gName 7) (sSeq (sSet 8 (wFrz (wBin .Add (wD (.int 1)) (wCallMS (sp_pdraw) 0 (aCons (wVar 2) (aNil))))))
  (sSeq (sSet 9 (wFrz (wCallMS (sp_pdraw) 0 (aCons (wD (.int 3)) (aNil)))))
  (sSeq (sFor (iRng1 (aCons (wVar 8) (aNil))) (gName 10) (sSeq (sSet 11 (wFrz (wCallMS (sp_pdraw) 0 (aCons (wBin .Add (wVar 3) (wD (.int 1))) (aNil)))))
  (sSeq (sIf (tVal (wCmp .Gt (wVar 5) (wD (.int 0)))) (sSeq (sSet 11 (wFrz (wB bMax2 (aCons (wVar 11) (aCons (wB bMin2 (aCons (wVar 3) (aCons (wBin .Add (wVar 8) (wCallMS (sp_pdraw) 0 (aCons (wD (.int 2)) (aNil)))) (aNil)))) (aNil))))))
  (sNil)) (sNil))
  (sSeq (sSet 12 (wFrz (wCallMS (sp_pdraw) 0 (aCons (wVar 4) (aNil)))))
  (sSeq (sIf (tVal (wCmp .Eq (wVar 5) (wD (.int 3)))) (sSeq (sSet 12 (wFrz (wIx (wTup (aCons (wVar 7) (aCons (wB bMin2 (aCons (wBin .Sub (wVar 4) (wD (.int 1))) (aCons (wBin .Add (wVar 7) (wD (.int 1))) (aNil)))) (aNil)))) (wCallMS (sp_pdraw) 0 (aCons (wD (.int 2)) (aNil))))))
  (sNil)) (sNil))
  (sSeq (sApp 6 (wFrz (wTup (aCons (wVar 7) (aCons (wIx (wD (.str "abcde")) (wBin .Mod (wB bInt (aCons (wBin .Add (wVar 10) (wVar 9)) (aNil))) (wD (.int 5)))) (aCons (wVar 11) (aCons (wVar 12) (aNil))))))))
  (sNil)))))))
  (sNil)))))
  (sSeq (sRet (wTup (aCons (wVar 4) (aCons (wTuple (wB bSort (aCons (wVar 6) (aNil)))) (aNil)))))
  (sNil)))))
def sp_lparts : SpM := fun u ds Q => ∃ mp ml my : Int, ds = [.int mp, .int ml, .int my] ∧ 1 ≤ mp ∧ mp ≤ 12 ∧ 1 ≤ ml ∧ ml ≤ 3 ∧ 0 ≤ my ∧ my ≤ 9 ∧ mp * ml ≤ 60 ∧ Pot u ∧ ∀ (n : Int) as u', Good n as → n ≤ mp → Pot u' → Q (.v (.tup [.int n, asD as])) u'
def arT2 (as : List Arw) : List T := as.map fun a => T.v (tK (aK a))
theorem abcde_at {i : Int} (h0 : 0 ≤ i) (h1 : i ≤ 4) : atI (Str.ofString "abcde").cps.toList i = some (97 + i.toNat) := by
  have : i = 0 ∨ i = 1 ∨ i = 2 ∨ i = 3 ∨ i = 4 := by omega
  rcases this with rfl | rfl | rfl | rfl | rfl <;> decide +kernel
theorem wp_lparts (a : Addr) (u : T) (ds : List D) (Q : T → T → Prop) (h : sp_lparts u ds Q) : cd_lparts (some (.at_ a u) :: ((ds.map fun d => some (T.v d)) ++ List.replicate (13 - (ds.length + 1)) none)) { nx := fun ρ => ∃ u', slot ρ 0 = some (.at_ a u') ∧ Q (.v .non) u', rt := fun r ρ => ∃ u', slot ρ 0 = some (.at_ a u') ∧ Q r u' } := by
  obtain ⟨mp, ml, my, rfl, p1, p2, l1, l3, y0, y9, hm, hu, q⟩ := h
  change cd_lparts [some (.at_ a u), some (.v (.int mp)), some (.v (.int ml)), some (.v (.int my)), none, none, none, none, none, none, none, none, none] _
  unfold cd_lparts
  obtain ⟨ts, rfl, hu⟩ := pot_L hu
  ((try dsimp only); rw [sSeq_def]; simp only [sSet, wFrz, wBin, wD, wCallMS, onL, slot, List.set_cons_zero, ex_app2, aCons, wVar, aNil, T.d_v, List.set_cons_succ, true_and])
  refine ⟨mp, rfl, by omega, by omega, hu, fun r u r0 r1 hu => ?_⟩
  obtain ⟨n, hn⟩ : ∃ n, n = 1 + r := ⟨_, rfl⟩
  obtain ⟨ts, rfl, hu⟩ := pot_L hu
  simp only [T.d_v, binW_ai]
  rw [← hn]
  ((try dsimp only); rw [sSeq_def]; simp only [sSet, wFrz, wCallMS, onL, slot, List.set_cons_zero, ex_app2, aCons, wD, aNil, T.d_v, List.set_cons_succ, true_and])
  refine ⟨4, rfl, by decide, by decide, hu, fun kd u k0 k1 hu => ?_⟩
  obtain ⟨ts, rfl, hu⟩ := pot_L hu
  simp only [T.d_v]
  ((try dsimp only); rw [sSeq_def]; simp only [sSet, wLst, aNil, lenk_0, List.map_nil, List.set_cons_succ, List.set_cons_zero, true_and])
  ((try dsimp only); rw [sSeq_def]; simp only [sFor, iRng1, aCons, wVar, slot, aNil, T.d_v, List.cons.injEq, D.int.injEq, and_true, rng_map, exists_eq_left'])
  refine ⟨by omega, by omega, ?_⟩
  refine forP_map (rngI n.toNat) D.int (fun pre ρ => ∃ (u : T) (as : List Arw) (x7 x8 x9 x10 x11 x12 : Option T), ρ = [some (.at_ a u), some (.v (.int mp)), some (.v (.int ml)), some (.v (.int my)), some (.v (.int n)), some (.v (.int kd)), some (.lst (arT2 as)), x7, x8, x9, x10, x11, x12] ∧ Pot u ∧ PreG n ml.toNat pre.length as) ⟨_, [], none, none, none, none, none, none, rfl, hu, ⟨fun _ h => (by cases h), List.Pairwise.nil, fun i h0 h1 => (by simp at h1; omega), by simp⟩⟩ ?_ ?_
  · rintro pre p post ρ e0 ⟨u, as, x7, x8, x9, x10, x11, x12, rfl, hu, hg⟩
    obtain ⟨ep, hlt⟩ := rngI_split e0
    obtain ⟨ts, rfl, hu⟩ := pot_L hu
    simp only [gName, List.set_cons_succ, List.set_cons_zero]
    ((try dsimp only); rw [sSeq_def]; simp only [sSet, wFrz, wBin, wD, wCallMS, onL, slot, List.set_cons_zero, ex_app2, aCons, wVar, aNil, T.d_v, List.set_cons_succ, true_and])
    refine ⟨ml, rfl, by omega, by omega, hu, fun r2 u r20 r21 hu => ?_⟩
    obtain ⟨m, hmn⟩ : ∃ m, m = 1 + r2 := ⟨_, rfl⟩
    obtain ⟨ts, rfl, hu⟩ := pot_L hu
    simp only [T.d_v, binW_ai]
    rw [← hmn]
    ((try dsimp only); rw [sSeq_def]; simp only [sSet, wFrz, wCallMS, onL, slot, List.set_cons_zero, ex_app2, aCons, wD, aNil, T.d_v, List.set_cons_succ, true_and])
    refine ⟨3, rfl, by decide, by decide, hu, fun sh u s0 s1 hu => ?_⟩
    obtain ⟨ts, rfl, hu⟩ := pot_L hu
    simp only [T.d_v]
    ((try dsimp only); rw [sSeq_def]; simp only [sFor, iRng1, aCons, wVar, slot, aNil, T.d_v, List.cons.injEq, D.int.injEq, and_true, rng_map, sNil, exists_eq_left'])
    refine ⟨by omega, by omega, ?_⟩
    refine forP_map (rngI m.toNat) D.int (fun pre2 ρ => ∃ (u : T) (as : List Arw) (x10 x11 x12 : Option T), ρ = [some (.at_ a u), some (.v (.int mp)), some (.v (.int ml)), some (.v (.int my)), some (.v (.int n)), some (.v (.int kd)), some (.lst (arT2 as)), some (.v (.int p)), some (.v (.int m)), some (.v (.int sh)), x10, x11, x12] ∧ Pot u ∧ MidG n ml.toNat p (97 + sh.toNat + pre2.length) pre2.length as) ⟨_, as, _, _, _, rfl, hu, ?_⟩ ?_ ?_
    · rw [ep]; exact hg.mid
    · rintro pre2 k post2 ρ e2 ⟨u, as, x10, x11, x12, rfl, hu, hg⟩
      obtain ⟨ek, hk⟩ := rngI_split e2
      obtain ⟨ts, rfl, hu⟩ := pot_L hu
      simp only [gName, List.set_cons_succ, List.set_cons_zero]
      ((try dsimp only); rw [sSeq_def]; simp only [sSet, wFrz, wCallMS, onL, slot, List.set_cons_zero, ex_app2, aCons, wBin, wVar, wD, T.d_v, aNil, List.set_cons_succ, binW_ai, true_and])
      refine ⟨my + 1, rfl, by omega, by omega, hu, fun y u y00 y1 hu => ?_⟩
      obtain ⟨ts, rfl, hu⟩ := pot_L hu
      simp only [T.d_v]
      refine st_join (fun ρ => ∃ (u : T) (y : Int), ρ = [some (.at_ a u), some (.v (.int mp)), some (.v (.int ml)), some (.v (.int my)), some (.v (.int n)), some (.v (.int kd)), some (.lst (arT2 as)), some (.v (.int p)), some (.v (.int m)), some (.v (.int sh)), some (.v (.int k)), some (.v (.int y)), x12] ∧ Pot u ∧ 0 ≤ y ∧ y ≤ my) (fun R' hR => ?_) ?_
      · simp only [sIf, tVal, wCmp, wVar, slot, wD, T.d_v, T.v.injEq, D.bl.injEq, sNil, exists_eq_left', cmpW_gt, gtW_i]
        refine ⟨fun _ => ?_, fun _ => hR _ ⟨_, y, rfl, hu, by omega, by omega⟩⟩
        ((try dsimp only); rw [sSeq_def]; simp only [sSet, wFrz, wB, aCons, wVar, slot, wBin, wCallMS, onL, List.set_cons_zero, ex_app2, wD, aNil, T.d_v, sNil, List.set_cons_succ, true_and])
        refine ⟨2, rfl, by decide, by decide, hu, fun r3 u r30 r31 hu => ?_⟩
        obtain ⟨ts, rfl, hu⟩ := pot_L hu
        simp only [T.d_v, binW_ai, bMin2_i, bMax2_i]
        exact hR _ ⟨_, _, rfl, hu, by omega, by omega⟩
      clear y00 y1 y
      rintro ρ ⟨u, y, rfl, hu, y00, y1⟩
      obtain ⟨ts, rfl, hu⟩ := pot_L hu
      ((try dsimp only); rw [sSeq_def]; simp only [sSet, wFrz, wCallMS, onL, slot, List.set_cons_zero, ex_app2, aCons, wVar, aNil, T.d_v, List.set_cons_succ, true_and])
      refine ⟨n, rfl, by omega, by omega, hu, fun g u g0 g1 hu => ?_⟩
      obtain ⟨ts, rfl, hu⟩ := pot_L hu
      simp only [T.d_v]
      refine st_join (fun ρ => ∃ (u : T) (g : Int), ρ = [some (.at_ a u), some (.v (.int mp)), some (.v (.int ml)), some (.v (.int my)), some (.v (.int n)), some (.v (.int kd)), some (.lst (arT2 as)), some (.v (.int p)), some (.v (.int m)), some (.v (.int sh)), some (.v (.int k)), some (.v (.int y)), some (.v (.int g))] ∧ Pot u ∧ 0 ≤ g ∧ g < n) (fun R' hR => ?_) ?_
      · simp only [sIf, tVal, wCmp, wVar, slot, wD, T.d_v, T.v.injEq, D.bl.injEq, sNil, exists_eq_left', cmpW_eq, eqW_i]
        refine ⟨fun _ => ?_, fun _ => hR _ ⟨_, g, rfl, hu, by omega, by omega⟩⟩
        ((try dsimp only); rw [sSeq_def]; simp only [sSet, wFrz, wIx, wTup, aCons, wVar, slot, wB, wBin, wD, T.d_v, aNil, lenk_2, wCallMS, onL, List.set_cons_zero, ex_app2, sNil, List.set_cons_succ, true_and, binW_ai, binW_s, bMin2_i])
        refine ⟨2, rfl, by decide, by decide, hu, fun r3 u r30 r31 hu => ?_⟩
        obtain ⟨ts, rfl, hu⟩ := pot_L hu
        obtain ⟨g', hg1, hg2, hg3⟩ : ∃ g' : Int, atI [D.int p, .int (min (n - 1) (p + 1))] r3 = some (.int g') ∧ 0 ≤ g' ∧ g' < n := by
          have : r3 = 0 ∨ r3 = 1 := by omega
          rcases this with rfl | rfl
          · exact ⟨p, rfl, by omega, by omega⟩
          · exact ⟨_, rfl, by omega, by omega⟩
        simp only [T.d_v, ixW_t]
        refine ⟨_, hg1, ?_⟩
        exact hR _ ⟨_, _, rfl, hu, hg2, hg3⟩
      clear g0 g1 g
      rintro ρ ⟨u, g, rfl, hu, g0, g1⟩
      obtain ⟨ts, rfl, hu⟩ := pot_L hu
      have hks : (k + sh) % 5 = k + sh := Int.emod_eq_of_lt (by omega) (by omega)
      ((try dsimp only); rw [sSeq_def]; simp only [sApp, onL, slot, List.set_cons_succ, List.set_cons_zero, ex_app2, wFrz, wTup, aCons, wVar, wIx, wD, wBin, wB, T.d_v, aNil, lenk_4, sNil, List.cons.injEq, Option.some.injEq, and_true, true_and, binW_ai, bInt_i, binW_r, hks, ixW_s])
      have hlen := hg.len
      have hp : p * ml.toNat ≤ 60 := by
        rw [show (ml.toNat : Int) = ml by omega]
        exact Int.le_trans (Int.mul_le_mul_of_nonneg_right (by omega) (by omega)) hm
      have hst := hg.step (pay := y) (to := g) (by omega) (by omega) y00 (by omega) g0 g1 (by omega) (by omega)
      have e97 : 97 + (k + sh).toNat = 97 + sh.toNat + pre2.length := by omega
      refine ⟨by decide, by decide, _, abcde_at (by omega) (by omega), by simp [arT2]; omega, _, as ++ [(p, chr (97 + sh.toNat + pre2.length), y, g)], _, _, _, ⟨rfl, ?_, rfl, rfl, rfl⟩, hu, ?_⟩
      · rw [e97]; simp [arT2, tK_aK, chr]
      · rw [List.length_append]
        exact hst
    · rintro ρ ⟨u, as, x10, x11, x12, rfl, hu, hg⟩
      refine ⟨u, as, _, _, _, _, _, _, rfl, hu, ?_⟩
      rw [rngI_len] at hg
      have := hg.done (by omega) (by omega)
      rw [ep] at this
      simpa using this
  · rintro ρ ⟨u, as, x7, x8, x9, x10, x11, x12, rfl, hu, hg⟩
    rw [rngI_len, show ((n.toNat : Nat) : Int) = n by omega] at hg
    have hml : n * ml ≤ 60 := Int.le_trans (Int.mul_le_mul_of_nonneg_right (by omega) (by omega)) hm
    have ok := hg.good (by omega) (by omega) (by rw [show (ml.toNat : Int) = ml by omega]; exact hml)
    ((try dsimp only); rw [sSeq_def]; simp only [sRet, wTup, aCons, wVar, slot, wTuple, wB, aNil, T.d_v, lenk_2, List.set_cons_succ, List.set_cons_zero, Option.some.injEq, true_and])
    rw [show (T.lst (arT2 as)).d = .lst (as.map fun a => tK (aK a)) from asD_tk as]
    refine .inr (.inr ⟨as.map aK, as.map aK, fun j => decide (j = 1), by rw [List.map_map]; rfl, List.Perm.refl _, ok.up.imp fun {x y} h => lex_asym h, fun k hk => ?_, ?_⟩)
    · obtain ⟨b, hb, rfl⟩ := List.mem_map.mp hk
      refine ⟨fun j y hj => ?_, by simp [aK]⟩
      rcases j with _ | _ | _ | _ | j <;> simp [aK] at hj <;> subst hj <;> rfl
    · simp only [lst_vd]
      refine ⟨_, rfl, ?_⟩
      rw [List.map_map]
      exact q n as _ ok (by omega) hu
theorem ln_lparts : ∀ u ds Q, sp_lparts u ds Q → ds.length + 1 = 4 := by rintro u ds Q ⟨mp, ml, my, rfl, _⟩; rfl
end Vl
end
section
set_option maxRecDepth 100000
namespace Vl
open PySem L2
def cd_reciprocal : WS :=
  sSeq (sRet (wBin .FloorDiv (wD (.int 2520)) (wB bMax2 (aCons (wVar 0) (aCons (wD (.int 1)) (aNil))))))
  (sNil)
def sp_reciprocal : Sp := fun ds Q _ => ∃ p : Int, ds = [.int p] ∧ p ≤ 1000 ∧ Q (.v (.int (2520 / max p 1)))
theorem wp_reciprocal (ds : List D) (Q : T → Prop) (Qx : Xn → Prop) (h : sp_reciprocal ds Q Qx) : cd_reciprocal ((ds.map fun d => some (T.v d)) ++ List.replicate (1 - ds.length) none) { nx := fun _ => Q (.v .non), rt := fun r _ => Q r, ex := fun x _ => Qx x } := by
  obtain ⟨p, rfl, hp, q⟩ := h
  change cd_reciprocal [some (.v (.int p))] _
  unfold cd_reciprocal
  ((try dsimp only); rw [sSeq_def]; simp only [sRet, wBin, wD, wB, aCons, wVar, slot, aNil, T.d_v, bMax2_i, binW_d])
  exact ⟨.inl ⟨by omega, by omega⟩, q⟩
theorem ln_reciprocal : ∀ ds Q Qx, sp_reciprocal ds Q Qx → ds.length = 1 := by rintro ds Q Qx ⟨p, rfl, _⟩; rfl
end Vl
end
section
set_option maxRecDepth 100000
namespace Vl
open PySem L2
def cd_inside : WS :=
  sSeq (sRet (wB bSum (aCons (wLc [2, 3] (iVals' (wVar 0)) (gTup (gCons (gName 2) (gCons (gName 3) (gNil)))) (tVal (wCmp .In (wVar 3) (wVar 1))) (wCallS (sp_reciprocal) (aCons (wVar 2) (aNil)))) (aNil))))
  (sNil)
def sp_inside : Sp := fun ds Q _ => ∃ (n : Int) (as : List Arw) (p : Int) (xs : List Int), ds = [.dic (wayD as p), .dic (dicL xs)] ∧ Good n as ∧ Q (.v (.int (inS as p xs)))
theorem way_vals (as : List Arw) (p : Int) : ((wayD as p).map fun q => q.2) = (stepsOf as p).map fun a => D.tup [.int a.2.2.1, .int a.2.2.2] := by simp [wayD, List.map_map, Function.comp_def]
theorem steps_sub {as : List Arw} {p : Int} {a : Arw} (h : a ∈ stepsOf as p) : a ∈ as ∧ a.1 = p := by
  unfold stepsOf at h
  rw [List.mem_filter] at h
  exact ⟨h.1, by simpa using h.2⟩
theorem steps_len (as : List Arw) (p : Int) : (stepsOf as p).length ≤ as.length := List.length_filter_le _ _
theorem wp_inside (ds : List D) (Q : T → Prop) (Qx : Xn → Prop) (h : sp_inside ds Q Qx) : cd_inside ((ds.map fun d => some (T.v d)) ++ List.replicate (4 - ds.length) none) { nx := fun _ => Q (.v .non), rt := fun r _ => Q r, ex := fun x _ => Qx x } := by
  obtain ⟨n, as, p, xs, rfl, ok, q⟩ := h
  change cd_inside [some (.v (.dic (wayD as p))), some (.v (.dic (dicL xs))), none, none] _
  unfold cd_inside
  ((try dsimp only); rw [sSeq_def]; simp only [sRet, wB, aCons, wLc, iVals', wVar, slot, T.d_v, way_vals, aNil])
  refine lcP_fm (stepsOf as p) _ (fun a => decide (a.2.2.2 ∈ xs)) (fun a => .int (2520 / max a.2.2.1 1)) (Nat.le_trans (steps_len as p) (Nat.le_trans ok.l2 (by omega))) (fun a ha P1 P0 h1 h0 => ?_) ?_
  · simp only [wipeR, List.set_cons_succ, List.set_cons_zero, tVal, wCmp, wVar, T.d_v, T.v.injEq, D.bl.injEq, wCallS, aCons, aNil, exists_eq_left', cmpW_in, gTup_t, gCons_c, gName, gNil_n, slot, inW_di, dicL_is]
    have := (ok.ok a (steps_sub ha).1).p1
    exact ⟨fun e => ⟨_, rfl, by omega, h1 _ rfl e⟩, fun e => h0 _ rfl e⟩
  · simp only [lst_vd, bSum_l]
    exact ⟨((stepsOf as p).filter fun a => decide (a.2.2.2 ∈ xs)).map fun a : Arw => (2520 : Int) / max a.2.2.1 1, by simp [List.map_map, Function.comp_def], q⟩
theorem ln_inside : ∀ ds Q Qx, sp_inside ds Q Qx → ds.length = 2 := by rintro ds Q Qx ⟨n, as, p, xs, rfl, _⟩; rfl
end Vl
end
section
set_option maxRecDepth 100000
namespace Vl
open PySem L2
def cd_psteps : WS :=
  sSeq (sRet (wLc [2, 3, 4, 5] (iVal (wIx (wVar 0) (wD (.int 1)))) (gTup (gCons (gName 2) (gCons (gName 3) (gCons (gName 4) (gCons (gName 5) (gNil)))))) (tVal (wCmp .Eq (wVar 2) (wVar 1))) (wTup (aCons (wVar 3) (aCons (wVar 4) (aCons (wVar 5) (aNil)))))))
  (sNil)
def ptD (n : Int) (as : List Arw) : D := .tup [.int n, asD as]
def sp_psteps : Sp := fun ds Q _ => ∃ (n : Int) (as : List Arw) (p : Int), ds = [ptD n as, .int p] ∧ Good n as ∧ Q (.lst (((stepsOf as p).map edD).map T.v))
theorem wp_psteps (ds : List D) (Q : T → Prop) (Qx : Xn → Prop) (h : sp_psteps ds Q Qx) : cd_psteps ((ds.map fun d => some (T.v d)) ++ List.replicate (6 - ds.length) none) { nx := fun _ => Q (.v .non), rt := fun r _ => Q r, ex := fun x _ => Qx x } := by
  obtain ⟨n, as, p, rfl, ok, q⟩ := h
  change cd_psteps [some (.v (ptD n as)), some (.v (.int p)), none, none, none, none] _
  unfold cd_psteps
  ((try dsimp only); (try simp only [ptD]); rw [sSeq_def]; simp only [sRet, wLc, iVal, wIx, wVar, slot, wD, T.d_v, ixW_t, atI_1, Option.some.injEq, exists_eq_left', asD_walk])
  unfold asD
  have l2 := ok.l2
  refine lcP_fm as _ (fun a => a.1 == p) edD (by omega) (fun a ha P1 P0 h1 h0 => ?_) q
  simp only [arD, wipeR, tK_aK, List.set_cons_succ, List.set_cons_zero, tVal, wCmp, wVar, T.d_v, T.v.injEq, D.bl.injEq, wTup, aCons, aNil, lenk_3, true_and, exists_eq_left', cmpW_eq, gTup_t, gCons_c, gName, gNil_n, slot, eqW_i]
  refine ⟨fun e => h1 _ rfl ?_, fun e => h0 _ rfl ?_⟩
  · simpa using e
  · simpa using e
theorem ln_psteps : ∀ ds Q Qx, sp_psteps ds Q Qx → ds.length = 2 := by rintro ds Q Qx ⟨n, as, p, rfl, _⟩; rfl
end Vl
end
section
set_option maxRecDepth 100000
/-! Wt1: any value as a test; an expression over a lent list or dict; list(range(..)); texts in upper case. -/
namespace Vl
open PySem L2
section
variable {X : Cx} {a b e : Expr} {wa wb we : WE} {va : WA} {pos p p2 p3 apos cpos : Pos} {ρ : Rho}
end
/-- the slots while one is lent: plain data -/
def plainO : Option T → Option T
  | some (.v d) => some (.v d)
  | _ => none
def plainR (ρ : Rho) : Rho := ρ.map plainO
theorem plainR_nil : plainR [] = [] := rfl
theorem plainO_v {d : D} : plainO (some (.v d)) = some (.v d) := rfl
theorem plainO_l {ts : List T} : plainO (some (.lst ts)) = none := rfl
theorem plainR_x {x : Option T} {ρ : Rho} : plainR (x :: ρ) = plainO x :: plainR ρ := rfl
section
variable {K : PySem.W.Frag} {F H : Hp}
theorem owns_plain : ∀ {σ : St} {ρ : Rho} {A : List Addr}, OwnS K F H σ ρ A → OwnS K F H σ (plainR ρ) []
  | _, _, _, .nil => .nil
  | _, _, _, .skip h => .skip (owns_plain h)
  | _, _, _, .cons (t := t) h1 h2 => by
    cases t with
    | v d =>
      cases h1 with
      | v hd => exact OwnS.cons (A := []) (.v hd) (owns_plain h2)
    | _ => exact OwnS.skip (owns_plain h2)
end
section
variable {K : PySem.W.Frag} {B F0 : Hp} {ρ st : Rho} {σ vst : St} {H : Hp} {i : Nat} {t : T} {k : Bool}
/-- the slot i is lent to an expression: what is seen, and how it comes back -/
theorem Rl.lendA (h : Rl K B F0 (st ++ ρ) (vst ++ σ) H) (hl : vst.length = st.length) (e : ρ[i]? = some (some t)) (l : lendO k t) :
    ∃ (q : Addr) (F' : Hp), σ[i]? = some (some (.ref q)) ∧ Rl K H F' (plainR st ++ (plainR ρ).set i (some (.v t.d))) (vst ++ σ) H ∧
      ∀ (ρ2 : Rho) (σ2 : St) (r : T) (v : V) (H' : Hp) (Q : Hp → Prop), Rl K H F' (some r :: ρ2) (some v :: σ2) H' → r.no k → (∀ H'', Rl K B F0 (some r :: (st ++ ρ)) (some v :: (vst ++ σ)) H'' → Q H'') → UnlP q H' Q := by
  obtain ⟨F, A, e0, e1, e2, dm, o', nd, fr⟩ := h
  obtain ⟨A1, A2, rfl, o1, o2⟩ := id (o'.split hl)
  obtain ⟨v0, B1, B2, B3, e3, rfl, o3, _, _⟩ := o2.at e
  obtain ⟨q, u, rfl, rfl, hq, mu, hk⟩ := lend_own o3 l
  have hA : q ∈ A1 ++ (B1 ++ ([q] ++ B3)) := by simp
  obtain ⟨Fq, Bq⟩ := fr q hA
  classical
  let F' : Hp := fun a => if a = q then some u else F a
  have m1 : F' q = some u := if_pos rfl
  have m2 : ∀ a, a ≠ q → F' a = F a := fun a ha => if_neg ha
  have eF : Same F F' := fun a w z => by
    by_cases ha : a = q
    · subst ha; rw [Fq] at z; cases z
    · rw [m2 a ha]; exact z
  have eH : Sub F' H := fun a w z => by
    by_cases ha : a = q
    · subst ha; rw [m1] at z; cases z; exact .inl hq
    · rw [m2 a ha] at z; exact e1 a w z
  have hd : Den K F' (.ref q) t.d := o3.den eF fun a ha w z => by
    have : a = q := by simpa using ha
    subst this
    rw [hq] at z; cases z; exact m1
  refine ⟨q, F', e3, ?_, fun ρ2 σ2 r v H' Q hR hno hQ => ?_⟩
  · have op := owns_plain (o'.mono eF fun _ _ _ z => z)
    have R1 : Rl K H F' (plainR (st ++ ρ)) (vst ++ σ) H := ⟨F', [], Same.refl _, eH, fun _ _ z => .inl z, fun a w z => .inl ⟨w, z⟩, op, List.nodup_nil, fun a ha => by cases ha⟩
    have ep : plainR (st ++ ρ) = plainR st ++ plainR ρ := by unfold plainR; rw [List.map_append]
    rw [ep] at R1
    have R2 := Rl.setSt (st := plainR st) (vst := vst) i (R1.pushF hd) (by rw [hl]; unfold plainR; rw [List.length_map])
    rwa [set_self e3] at R2
  obtain ⟨F2, Ar, f0, f1, f2, fdm, fo, fnd, ffr⟩ := hR
  cases fo with
  | @cons _ _ _ _ C1 C2 c1 c2 =>
    have F2q : F2 q = some u := f0 q u m1
    have HA : ∀ a, a ∈ A1 ++ (B1 ++ ([q] ++ B3)) → ∃ w, H a = some w := fun a ha => o'.there a ha
    let F3 : Hp := fun a => if a = q then none else F2 a
    have n1 : F3 q = none := if_pos rfl
    have n2 : ∀ a, a ≠ q → F3 a = F2 a := fun a ha => if_neg ha
    have LN : Lent k q F2 F3 := ⟨⟨u, F2q, hk⟩, n2⟩
    have F2A : ∀ a, a ∈ A1 ++ (B1 ++ ([q] ++ B3)) → a ≠ q → F2 a = none := fun a ha hne => none_of_ne fun w z => by
      rcases fdm a w z with ⟨w', z'⟩ | z'
      · rw [m2 a hne, (fr a ha).1] at z'; cases z'
      · obtain ⟨w', hw'⟩ := HA a ha
        rw [z'] at hw'; cases hw'
    have C1q : ∀ a ∈ C1, a ≠ q := fun a ha z => by
      have := (ffr a (by simp [ha])).2
      rw [z, hq] at this; cases this
    have fin : ∀ H'', H'' q = some u → (∀ a, a ≠ q → H'' a = H' a) → Rl K B F0 (some r :: (st ++ ρ)) (some v :: (vst ++ σ)) H'' := fun H'' g1 g2 => by
      have s1 : Same F F3 := fun a w z => by
        have hne : a ≠ q := fun z' => by subst z'; rw [Fq] at z; cases z
        rw [n2 a hne]
        exact f0 a w (by rw [m2 a hne]; exact z)
      have b2 : Bas B F2 H' := bas_tr f0 (e2.mono eF) f2
      have oR : Own K F3 H'' v r C1 := by
        have key : ∀ {v : V} {d : D}, D.no k d = true → Den K F2 v d → Den K F3 v d := fun hn hd => Den.apart LN hn hd
        cases r with
        | v d =>
          cases c1 with
          | v hd => exact .v (key hno hd)
        | lst ts =>
          obtain ⟨ds, rfl, hn⟩ := hno
          cases c1 with
          | lst hH ho =>
            have := owns_nil ho
            subst this
            refine .lst ?_ (OwnL.ofDen (DenL.apart LN hn (owns_den ho)))
            rw [g2 _ (C1q _ (by simp))]; exact hH
        | _ => exact hno.elim
      refine ⟨F3, C1 ++ (A1 ++ (B1 ++ ([q] ++ B3))), e0.trans s1, fun a w z => ?_, fun a w z => ?_, fun a w z => ?_, .cons oR (o'.mono s1 fun a ha w z => ?_), List.nodup_append.mpr ⟨(List.nodup_append.mp fnd).1, nd, fun a ha b hb z => ?_⟩, fun a ha => ?_⟩
      · have hne : a ≠ q := fun z' => by subst z'; rw [n1] at z; cases z
        rw [n2 a hne] at z
        rw [g2 a hne]
        rcases f1 a w z with y | ⟨o, kvs, y1, y2⟩
        · exact .inl y
        · exact .inr ⟨o, kvs, y1, by rw [g2 a hne]; exact y2⟩
      · have hne : a ≠ q := fun z' => by subst z'; rw [Bq] at z; cases z
        rw [g2 a hne, n2 a hne]
        rcases b2 a w z with y | ⟨y0, o, kvs, y1, y2⟩
        · exact .inl y
        · exact .inr ⟨y0, o, kvs, y1, by rw [g2 a hne]; exact y2⟩
      · have hne : a ≠ q := fun z' => by subst z'; rw [n1] at z; cases z
        rw [n2 a hne] at z
        rcases fdm a w z with ⟨w', y⟩ | y
        · rw [m2 a hne] at y; exact dm a w' y
        · exact .inr (e2.free y)
      · by_cases hne : a = q
        · subst hne; rw [hq] at z; cases z; exact g1
        · rw [g2 a hne]
          rcases f2 a w z with y | ⟨y, _⟩
          · exact y
          · rw [F2A a ha hne] at y; cases y
      · subst z
        obtain ⟨w', hw'⟩ := HA a hb
        have := (ffr a (by simp [ha])).2
        rw [hw'] at this; cases this
      · rcases List.mem_append.mp ha with ha | ha
        · have := ffr a (by simp [ha])
          exact ⟨by rw [n2 a (C1q a ha)]; exact this.1, e2.free this.2⟩
        · refine ⟨?_, (fr a ha).2⟩
          by_cases hne : a = q
          · subst hne; exact n1
          · rw [n2 a hne]; exact F2A a ha hne
    rcases f2 q u hq with y | ⟨_, o, kvs, y1, y2⟩
    · exact .inl (hQ H' (fin H' y fun a _ => rfl))
    · exact .inr ⟨o, u, y2, hQ _ (fin _ upd_same fun a ha => upd_ne ha)⟩
end
section
variable {X : Cx} {e : Expr} {we : WE} {k : Bool}
def wLendE (k : Bool) (i : Nat) (a : WE) : WE := fun ρ Φ _ => ∃ t, slot ρ i = some t ∧ lendO k t ∧ a ((plainR ρ).set i (some (.v t.d))) (fun r _ => r.no k ∧ Φ r ρ) EX0
theorem rf_lendE (k : Bool) (i : Nat) (h : RfE X e we) : RfE X e (wLendE k i we) := fun ρ Φ Ξ hh B F0 st vst σ H Q Wx tk hl R kk kx => by
  obtain ⟨t, hs, hlo, h2⟩ := hh
  obtain ⟨v0, F0', A0, hv0, ow, _, _⟩ := R.slot hl (slot_get hs)
  obtain ⟨q, u0, rfl, _, hq0, mu, _⟩ := lend_own ow hlo
  obtain ⟨q', F', hv1, R1, back⟩ := R.lendA hl (slot_get hs) hlo
  rw [hv0] at hv1
  cases hv1
  refine ⟨_, pe_unl (pe_u X e), q, u0, hq0, mu, h _ _ _ h2 H F' (plainR st) vst σ H _ (fun _ _ _ _ => False) takes_none5 (by rw [hl]; unfold plainR; rw [List.length_map]) R1 (fun r ρ1 v H1 h1 R2 => ?_) fun _ _ _ _ _ _ e _ _ => e.elim⟩
  exact back _ _ r v H1 _ R2 h1.1 fun H'' h'' => kk r ρ v H'' h1.2 h''
end
section
variable {X : Cx} {a b e : Expr} {wa wb we : WE} {pos p p2 p3 apos cpos : Pos}
end
end Vl
end
section
set_option maxRecDepth 100000
/-! Wt2: x *= e, x //= e, text += text. -/
namespace Vl
open PySem L2
section
variable {X : Cx} {e : Expr} {we : WE} {pos pos' : Pos}
end
end Vl
end
section
set_option maxRecDepth 100000
/-! Wt3: starred displays. -/
namespace Vl
open PySem L2
section
variable {K : PySem.W.Frag} {B F0 F H : Hp} {ρ st : Rho} {σ vst : St}
theorem Rl.pushL : ∀ {xs : List V} {es : List D}, DenL K F xs es → ∀ {ρ : Rho} {σ : St} {H : Hp}, Rl K B F ρ σ H → Rl K B F ((es.map fun d => some (T.v d)) ++ ρ) (xs.map some ++ σ) H
  | _, _, .nil, _, _, _, h => h
  | _, _, .cons a q, _, _, _, h => (Rl.pushL q h).pushF a
end
section
variable {X : Cx} {a : Expr} {es : List Expr} {wa : WE} {va : WA} {p : Pos}
end
end Vl
end
section
set_option maxRecDepth 100000
/-! Wt4: enumerate(t), t a tuple. -/
namespace L2
open PySem PySem.Spec PyProof.Rows PySem.Vy
section
variable {P : Program} {w : World} {K : PySem.W.Frag} {elts : List Expr} {kk : Nat} {tpos : Pos}
end
end L2
namespace Vl
open PySem L2
section
variable {X : Cx} {a : Expr} {va : WA} {elts : List Expr} {kk : Nat} {p pos tpos : Pos}
end
end Vl
end
section
set_option maxRecDepth 100000
/-! Ws6: t.index(i), a tuple of numbers. -/
namespace Vl
open PySem L2
section
variable {X : Cx}
end
end Vl
end
section
set_option maxRecDepth 100000
/-! Wt5: f(..).index(x), f a def that ends with return tuple(e), a new tuple of ints. -/
namespace L2
open PySem PySem.Spec PyProof.Rows
section
variable {X : Cx} {a e : Expr} {ta te : TE}
end
end L2
namespace Vl
open PySem L2
section
variable {X : Cx} {e a : Expr} {es : List Expr} {st : Stmt} {sts : List Stmt} {ρ : Rho} {pos p : Pos}
end
section
variable {P : Program} {w : World} {K : PySem.W.Frag} {mg : Str → Option Value} {base : Heap}
end
section
variable {X : Cx} {e : Expr} {es : List Expr} {va : WA} {pos p pv apos cpos : Pos}
end
end Vl
end
section
set_option maxRecDepth 100000
/-! Wt6: reached, its tuple asked for a place. -/
namespace Vl
open PySem L2
end Vl
end
section
set_option maxRecDepth 100000
/-! Wt7: a, b, c = x, y, z. -/
namespace Vl
open PySem L2
section
variable {X : Cx} {a b c : Expr} {va : WA} {pos : Pos}
end
end Vl
end
section
set_option maxRecDepth 100000
/-! Wt8: sorted(set(xs)), xs ints; sep.join(xs). -/
namespace Vl
open PySem L2
section
variable {X : Cx} {e a b : Expr} {we wa wb : WE} {pos p p2 pos2 apos : Pos}
end
end Vl
end
section
set_option maxRecDepth 100000
/-! Wt9: list(range(a, b)), a and b of any size. -/
namespace PySem.Lg
open PySem PySem.Spec PyProof.Rows
section
variable {prog : Program} {w : World} {A : Around} {E : Value → Shared → Prop} {s : Shared} {r S : Addr} {a b c : Int} {t u v : Tok} {n : Nat}
end
end PySem.Lg
namespace L2
open PySem PySem.Spec PyProof.Rows
section
variable {X : Cx} {e : Expr} {te : St → Hp → (Int → Int → Hp → Prop) → Prop}
end
end L2
namespace Vl
open PySem L2
section
variable {X : Cx} {e : Expr} {pos p : Pos}
end
end Vl
end
section
end
section
set_option maxRecDepth 100000
set_option maxHeartbeats 4000000
/-! Wu0: sets of texts. -/
namespace Vl
open PySem PySem.Spec PyProof.Rows L2 PySem.Froz
section
variable {P : Program} {w : World} {A : Around} {E : Value → Shared → Prop} {s : Shared}
/-- the texts l are what the set at a holds -/
def TxR (P : Program) (w : World) (h : Heap) (a : Addr) (l : List Str) : Prop :=
  ∃ D : SD, h.get? a = some (sObj "set" D) ∧ TxOk P w D l ∧ l.Nodup ∧ Ris D.2.2.place.toList ∧ (w.params.followText "set-order" = true ∨ D.2.2.led = true)
theorem TxR.at {h h' : Heap} {a : Addr} {l : List Str} (R : TxR P w h a l) (k : ∀ o, h.get? a = some o → h'.get? a = some o) : TxR P w h' a l := by
  obtain ⟨D, h1, r⟩ := R
  exact ⟨D, k _ h1, r⟩
end
end Vl
end
section
set_option maxRecDepth 100000
set_option maxHeartbeats 4000000
/-! Wu1: set(xs), sorted of a set, of texts. -/
namespace Vl
open PySem PySem.Spec PyProof.Rows L2 PySem.Froz
section
variable {P : Program} {w : World} {A : Around} {E : Value → Shared → Prop} {s : Shared}
end
end Vl
end
section
set_option maxRecDepth 100000
set_option maxHeartbeats 4000000
/-! Wu2: sorted(set(xs)), xs texts. -/
namespace Vl
open PySem PySem.Spec PyProof.Rows L2 PySem.Froz
section
variable {P : Program} {w : World} {A : Around} {E : Value → Shared → Prop} {s : Shared}
end
section
variable {X : Cx}
end
end Vl
end
section
set_option maxRecDepth 100000
/-! Wu3: sorted(set(xs)), xs texts: the word. -/
namespace Vl
open PySem L2
section
variable {X : Cx} {e a b : Expr} {we wa wb : WE} {pos p p2 pos2 apos : Pos}
end
end Vl
end
section
end
section
set_option maxRecDepth 100000
namespace Vl
open PySem L2
/-- those that are not struck yet -/
def leftF (n : Int) (f : Int → Option Int) : List Int := (rngI n.toNat).filter fun p => (f p).isNone
/-- what is struck behind so many turns -/
def turnF (n : Int) (as : List Arw) : Nat → Int → Option Int
  | 0, _ => none
  | t + 1, p => if p ∈ shortL as (leftF n (turnF n as t)) then some ((t : Int) + 1) else turnF n as t p
def rankF (n : Int) (as : List Arw) : Int → Option Int := turnF n as (n.toNat + 1)
def rankD (n : Int) (as : List Arw) : List D := (rngI n.toNat).map fun p => optD (rankF n as p)
theorem leftF_mem {n : Int} {f : Int → Option Int} {p : Int} : p ∈ leftF n f ↔ (0 ≤ p ∧ p < n) ∧ f p = none := by
  unfold leftF
  rw [List.mem_filter, rngI_mem, Option.isNone_iff_eq_none]
  refine and_congr_left fun _ => ?_
  omega
theorem leftF_len {n : Int} {f : Int → Option Int} : (leftF n f).length ≤ n.toNat := Nat.le_trans (List.length_filter_le _ _) (by rw [rngI_len]; exact Nat.le_refl _)
theorem leftF_nodup {n : Int} {f : Int → Option Int} : (leftF n f).Nodup := List.Pairwise.filter _ rngI_nodup
theorem shortL_mem {as : List Arw} {xs : List Int} {p : Int} : p ∈ shortL as xs ↔ p ∈ xs ∧ inS as p xs < 2520 := by
  unfold shortL
  rw [List.mem_filter, decide_eq_true_eq]
theorem turn_left {n : Int} {as : List Arw} {t : Nat} : leftF n (turnF n as (t + 1)) = (leftF n (turnF n as t)).filter fun p => decide (p ∉ shortL as (leftF n (turnF n as t))) := by
  conv => lhs; unfold leftF
  conv => rhs; unfold leftF
  rw [List.filter_filter]
  refine List.filter_congr fun p _ => ?_
  rw [turnF]
  by_cases h : p ∈ shortL as (leftF n (turnF n as t))
  · rw [if_pos h]
    have h' := h
    unfold leftF at h'
    simp [h']
  · rw [if_neg h]
    have h' := h
    unfold leftF at h'
    simp [h']
/-- when a turn strikes none, none is struck later -/
theorem turn_still {n : Int} {as : List Arw} {t : Nat} (h : shortL as (leftF n (turnF n as t)) = []) : ∀ k, turnF n as (t + k) = turnF n as t
  | 0 => rfl
  | k + 1 => by
    have ih := turn_still h k
    funext p
    show turnF n as ((t + k) + 1) p = _
    rw [turnF, ih, h]
    simp
theorem turn_less {n : Int} {as : List Arw} {t : Nat} (h : shortL as (leftF n (turnF n as t)) ≠ []) : (leftF n (turnF n as (t + 1))).length < (leftF n (turnF n as t)).length := by
  rw [turn_left]
  obtain ⟨p, hp⟩ := List.exists_mem_of_ne_nil _ h
  refine List.length_filter_lt_length_iff_exists.mpr ⟨p, (shortL_mem.mp hp).1, ?_⟩
  simp [hp]
theorem turn_many {n : Int} {as : List Arw} : ∀ t, (∀ s, s < t → shortL as (leftF n (turnF n as s)) ≠ []) → (leftF n (turnF n as t)).length + t ≤ n.toNat
  | 0, _ => leftF_len
  | t + 1, h => by
    have ih := turn_many t fun s hs => h s (by omega)
    have := turn_less (h t (by omega))
    omega
/-- the last turn that strikes none -/
theorem turn_end {n : Int} {as : List Arw} {t : Nat} (h : shortL as (leftF n (turnF n as t)) = []) (hp : ∀ s, s < t → shortL as (leftF n (turnF n as s)) ≠ []) : turnF n as t = rankF n as := by
  have := turn_many t hp
  have e : n.toNat + 1 = t + (n.toNat + 1 - t) := by omega
  unfold rankF
  rw [e, turn_still h]
theorem leftF0 {n : Int} {as : List Arw} : rngI n.toNat = leftF n (turnF n as 0) := by
  unfold leftF
  exact (List.filter_eq_self.mpr fun p _ => rfl).symm
def foundT (n : Int) (f : Int → Option Int) : T := .lst ((rngI n.toNat).map fun p => .v (optD (f p)))
theorem found0 {n : Int} {as : List Arw} : T.lst ((List.replicate n.toNat D.non).map T.v) = foundT n (turnF n as 0) := by
  unfold foundT rngI
  congr 1
  refine List.ext_getElem (by simp) fun i h1 h2 => ?_
  simp [turnF, optD]
theorem found_d {n : Int} {f : Int → Option Int} : (foundT n f).d = .lst ((rngI n.toNat).map fun p => optD (f p)) := by
  unfold foundT
  rw [show ((rngI n.toNat).map fun p => T.v (optD (f p))) = ((rngI n.toNat).map fun p => optD (f p)).map T.v by simp [List.map_map, Function.comp_def], lst_vd]
theorem found_set {n : Int} {f : Int → Option Int} {p t : Int} (h0 : 0 ≤ p) (h1 : p < n) : T.lst (((rngI n.toNat).map fun p => T.v (optD (f p))).set p.toNat (.v (.int t))) = foundT n fun q => if q = p then some t else f q := by
  unfold foundT
  rw [rng_set (f := fun p => T.v (optD (f p))) h0 (by omega)]
  congr 1
  refine List.map_congr_left fun q _ => ?_
  by_cases e : q = p <;> simp [e, optD]
theorem step_found {f : Int → Option Int} {pre : List Int} {p t : Int} : (fun q => if q = p then some t else if q ∈ pre then some t else f q) = fun q => if q ∈ pre ++ [p] then some t else f q := by
  funext q
  by_cases e : q = p <;> by_cases e2 : q ∈ pre <;> simp [e, e2]
theorem step_left {xs pre : List Int} {p : Int} : ((xs.filter fun x => decide (x ∉ pre)).filter fun x => decide (x ≠ p)) = xs.filter fun x => decide (x ∉ pre ++ [p]) := by
  rw [List.filter_filter]
  refine List.filter_congr fun q _ => ?_
  by_cases e : q = p <;> by_cases e2 : q ∈ pre <;> simp [e, e2]
theorem turn_found {n : Int} {as : List Arw} {t : Nat} : (fun p => if p ∈ shortL as (leftF n (turnF n as t)) then some ((t : Int) + 1) else turnF n as t p) = turnF n as (t + 1) := rfl
theorem turn_keep {n : Int} {as : List Arw} {p r : Int} {s : Nat} (h : turnF n as s p = some r) : ∀ k, turnF n as (s + k) p = some r
  | 0 => h
  | k + 1 => by
    have ih := turn_keep h k
    show turnF n as ((s + k) + 1) p = _
    rw [turnF, if_neg]
    · exact ih
    · intro hm
      have := (leftF_mem.mp (shortL_mem.mp hm).1).2
      rw [ih] at this
      cases this
theorem turn_some {n : Int} {as : List Arw} {p r : Int} : ∀ {t : Nat}, turnF n as t p = some r → ∃ s : Nat, s < t ∧ r = s + 1 ∧ p ∈ shortL as (leftF n (turnF n as s))
  | 0, h => by cases h
  | t + 1, h => by
    rw [turnF] at h
    by_cases e : p ∈ shortL as (leftF n (turnF n as t))
    · rw [if_pos e] at h
      cases h
      exact ⟨t, by omega, rfl, e⟩
    · rw [if_neg e] at h
      obtain ⟨s, h1, h2, h3⟩ := turn_some h
      exact ⟨s, by omega, h2, h3⟩
end Vl
end
section
set_option maxRecDepth 100000
namespace Vl
open PySem L2
def cd_isint (C : Addr) : WS :=
  sSeq (sRet (wAnd (wIsiC C "int" (wVar 0)) (wNot (wIsiC C "bool" (wVar 0)))))
  (sNil)
def isIntB (d : D) : Bool := d.isInt && !d.isBl
def sp_isint (C : Addr) : Sp := fun ds Q _ => ∃ d, ds = [d] ∧ d.okC C ∧ Q (.v (.bl (isIntB d)))
theorem wp_isint (C : Addr) (ds : List D) (Q : T → Prop) (Qx : Xn → Prop) (h : sp_isint C ds Q Qx) : cd_isint C ((ds.map fun d => some (T.v d)) ++ List.replicate (1 - ds.length) none) { nx := fun _ => Q (.v .non), rt := fun r _ => Q r, ex := fun x _ => Qx x } := by
  obtain ⟨d, rfl, ok, q⟩ := h
  change cd_isint C [some (.v d)] _
  unfold cd_isint
  unfold isIntB at q
  ((try dsimp only); rw [sSeq_def]; simp only [sRet, wAnd, wIsiC, wVar, slot, T.d_v, isi_i, T.v.injEq, D.bl.injEq, wNot, isi_b, exists_eq_left'])
  refine ⟨ok, fun e => ⟨ok, ?_⟩, fun e => ?_⟩
  · rw [e] at q
    exact q
  · rw [e] at q
    exact q
theorem ln_isint (C : Addr) : ∀ ds Q Qx, sp_isint C ds Q Qx → ds.length = 1 := by rintro ds Q Qx ⟨d, rfl, _⟩; rfl
end Vl
end
section
set_option maxRecDepth 100000
namespace Vl
open PySem L2
def cd_within (C : Addr) : WS :=
  sSeq (sRet (wAnd (wCallS (sp_isint C) (aCons (wVar 0) (aNil))) (wChain .LtE .LtE (wVar 1) (wVar 0) (wVar 2))))
  (sNil)
def withinB (d : D) (lo hi : Int) : Bool := match d with
  | .int i => decide (lo ≤ i) && decide (i ≤ hi)
  | _ => false
def sp_within (C : Addr) : Sp := fun ds Q _ => ∃ (d : D) (lo hi : Int), ds = [d, .int lo, .int hi] ∧ d.okC C ∧ Q (.v (.bl (withinB d lo hi)))
theorem isIntB_int {d : D} (h : isIntB d = true) : ∃ i, d = .int i := by
  cases d <;> first | exact ⟨_, rfl⟩ | (unfold isIntB at h; simp [D.isInt, D.isBl] at h)
theorem withinB_no {d : D} {lo hi : Int} (h : isIntB d = false) : withinB d lo hi = false := by
  cases d <;> first | rfl | (unfold isIntB at h; simp [D.isInt, D.isBl] at h)
theorem wp_within (C : Addr) (ds : List D) (Q : T → Prop) (Qx : Xn → Prop) (h : sp_within C ds Q Qx) : cd_within C ((ds.map fun d => some (T.v d)) ++ List.replicate (3 - ds.length) none) { nx := fun _ => Q (.v .non), rt := fun r _ => Q r, ex := fun x _ => Qx x } := by
  obtain ⟨d, lo, hi, rfl, ok, q⟩ := h
  change cd_within C [some (.v d), some (.v (.int lo)), some (.v (.int hi))] _
  unfold cd_within
  ((try dsimp only); rw [sSeq_def]; simp only [sRet, wAnd, wCallS, aCons, wVar, slot, aNil, T.d_v, wChain, cmpW_le])
  refine ⟨d, rfl, ok, _, rfl, fun e => ?_, fun e => ?_⟩
  · obtain ⟨i, rfl⟩ := isIntB_int e
    have q : Q (.v (.bl (decide (lo ≤ i) && decide (i ≤ hi)))) := q
    simp only [leW_i]
    refine ⟨fun e => ?_, fun e => ?_⟩
    · rw [e] at q
      exact q
    · rw [e] at q
      exact q
  · rw [withinB_no e] at q
    exact q
theorem ln_within (C : Addr) : ∀ ds Q Qx, sp_within C ds Q Qx → ds.length = 3 := by rintro ds Q Qx ⟨d, lo, hi, rfl, _⟩; rfl
end Vl
end
section
set_option maxRecDepth 100000
namespace Vl
open PySem L2
def cd_coins (C : Addr) : WS :=
  sSeq (sRet (wAnd (wCallS (sp_isint C) (aCons (wVar 0) (aNil))) (wCmp .GtE (wVar 0) (wD (.int 0)))))
  (sNil)
def coinsB (d : D) : Bool := match d with
  | .int i => decide (0 ≤ i)
  | _ => false
def sp_coins (C : Addr) : Sp := fun ds Q _ => ∃ d, ds = [d] ∧ d.okC C ∧ Q (.v (.bl (coinsB d)))
theorem coinsB_no {d : D} (h : isIntB d = false) : coinsB d = false := by
  cases d <;> first | rfl | (unfold isIntB at h; simp [D.isInt, D.isBl] at h)
theorem wp_coins (C : Addr) (ds : List D) (Q : T → Prop) (Qx : Xn → Prop) (h : sp_coins C ds Q Qx) : cd_coins C ((ds.map fun d => some (T.v d)) ++ List.replicate (1 - ds.length) none) { nx := fun _ => Q (.v .non), rt := fun r _ => Q r, ex := fun x _ => Qx x } := by
  obtain ⟨d, rfl, ok, q⟩ := h
  change cd_coins C [some (.v d)] _
  unfold cd_coins
  ((try dsimp only); rw [sSeq_def]; simp only [sRet, wAnd, wCallS, aCons, wVar, slot, aNil, T.d_v, wCmp, wD, cmpW_ge])
  refine ⟨d, rfl, ok, _, rfl, fun e => ?_, fun e => ?_⟩
  · obtain ⟨i, rfl⟩ := isIntB_int e
    simp only [geW_i]
    exact q
  · rw [coinsB_no e] at q
    exact q
theorem ln_coins (C : Addr) : ∀ ds Q Qx, sp_coins C ds Q Qx → ds.length = 1 := by rintro ds Q Qx ⟨d, rfl, _⟩; rfl
end Vl
end
section
set_option maxRecDepth 100000
namespace Vl
open PySem L2
end Vl
end
section
set_option maxRecDepth 100000
namespace Vl
open PySem L2
end Vl
end
section
set_option maxRecDepth 100000
namespace Vl
open PySem L2
end Vl
end
section
set_option maxRecDepth 100000
namespace Vl
open PySem L2
end Vl
end
section
set_option maxRecDepth 100000
namespace Vl
open PySem L2
end Vl
end
section
set_option maxRecDepth 100000
namespace Vl
open PySem L2
theorem ok_letter {c : Nat} (h : c ≤ 122) : PyData.strOk ⟨#[c]⟩ = true := by
  unfold PyData.strOk
  simp
  omega
/-- a stake that may be laid -/
structure StOk (as : List Arw) (p c : Int) (ss : List Int) : Prop where
  len : ss.length = (stepsOf as p).length
  nn : ∀ x ∈ ss, 0 ≤ x
  sum : ss.sum ≤ c
end Vl
end
section
set_option maxRecDepth 100000
set_option maxHeartbeats 4000000
/-! Wx1: C(), C an own exception over ValueError whose __init__ does nothing: no dict at the end. -/
namespace Vl
open PySem PySem.Spec PyProof.Rows L2
section
variable {X : Cx}
theorem mk_bare {pins : List (Addr × Obj)} {σ : L2.St} {H1 H2 : Hp} {Q : XK} {hp hp2 h2 : Heap} {g1 g2 : Array GenState} {d1 d2 : Drawn} {t1 t2 : Nat} {os1 os2 : OsState} {a C : Addr} (T : Raises X (.ref C)) (I1 : L2.Inv X pins σ H1 ⟨hp, g1, d1, t1, os1⟩)
    (ha : hp.objs.size ≤ a) (k : ∀ b o, hp.get? b = some o → hp2.get? b = some o) (un : Un (frs X.stack) [] (upd H1 a (exo a C none)) H2 hp2 h2) (hok : HOk X.prog X.w H2 h2) (ho : os2 = os1) (hb : AllBare g2)
    (ea : H2 a = some (exo a C none)) (q : Q (.ref C) none (del H2 a)) : MkP X pins σ Q (.ref a) ⟨h2, g2, d2, t2, os2⟩ := by
  obtain ⟨t0, hoe⟩ := exo_at hok ea
  have hn : H1 a = none := I1.hok.fresh ha
  obtain ⟨G, g1', g2'⟩ := restrict h2 fun b => decide (b ≠ a)
  have gk : ∀ b, b ≠ a → G.get? b = h2.get? b := fun b hb => g1' b (decide_eq_true hb)
  have ge : G.get? a = none := g2' a (by simp)
  have nha : ∀ {b : Addr} {o : Obj}, hp.get? b = some o → b ≠ a := fun {b o} z => Nat.ne_of_lt (Nat.lt_of_lt_of_le (Heap.lt_size z) ha)
  have up : ∀ {b : Addr}, b ≠ a → H1 b = none → upd H1 a (exo a C none) b = none := fun {b} hb n => by rw [upd_ne hb]; exact n
  have U : Un (frs X.stack) [] H1 (del H2 a) hp G := {
    keep := fun b o z n hf hx => (gk b (nha z)).trans (un.keep b o (k b o z) (up (nha z) n) hf hx)
    slot := fun b o z n hf hx => by
      rw [gk b (nha z)]
      exact un.slot b o (k b o z) (up (nha z) n) hf hx
    free := fun b o z n hx => (del_ne (nha z)).trans (un.free b o (k b o z) (up (nha z) n) hx)
    there := fun b o z hx => by
      rw [gk b (nha z)]
      exact un.there b o (k b o z) hx
    tups := fun b xs z => (del_ne (ne_of_none z hn)).trans (un.tups b xs (by rw [upd_ne (ne_of_none z hn)]; exact z))
    frzs := fun b o v z => (del_ne (ne_of_none z hn)).trans (un.frzs b o v (by rw [upd_ne (ne_of_none z hn)]; exact z))
    tbls := fun b ps z => by
      rw [del_ne (ne_of_none z hn)]
      exact un.tbls b ps (by rw [upd_ne (ne_of_none z hn)]; exact z) }
  have hok3 : HOk X.prog X.w (del H2 a) G := fun b o z => by
    have hba : b ≠ a := fun e => by
      rw [e, del_same] at z
      cases z
    rw [del_ne hba] at z
    have noa : ∀ {c : Addr}, H2 c = some (.own b) → c ≠ a := fun {c} hc => at_ne ea hc exo_own
    exact (hok b o z).stay (fun c v hc y => by
        have hca : c ≠ a := by
          rcases hc with hc | hc
          · rw [hc]
            exact hba
          · exact noa hc
        rw [gk c hca]
        exact y)
      (fun c hc => (del_ne (noa hc)).trans hc) (fun c xs hc => (del_ne (at_ne ea hc exo_tup)).trans hc)
  have J : L2.Inv X pins σ (del H2 a) ⟨G, g2, d2, t2, os2⟩ := I1.call' (ch := []) ho U hok3 hb (fun b z => absurd z (by simp))
  have kG : ∀ b o, G.get? b = some o → h2.get? b = some o := fun b o z => by
    by_cases hba : b = a
    · rw [hba, ge] at z
      cases z
    · exact (gk b hba).symm.trans z
  exact ⟨a, _, _, ⟨G, g2, d2, t2, os2⟩, _, .ref C, none, rfl, J, kG, ge, hoe, ⟨rfl, rfl⟩, rfl, rfl, del_same, rfl, hb, T, q⟩
/-- what an __init__ that does nothing keeps -/
def spPass : L2.Sp := fun vs H Q _ => vs.length = 1 ∧ Q .non H
theorem pmk_oex0 {CX : CXT} {x : Str} {C fI : Addr} {k : Nat} {fd : FuncData} {p pos : Pos} (T : OexC X.K C) (iC : PySem.W.findIn X.K (.ref C) "__init__" = some (some (.ref fI))) (tI : PySem.W.typeIn X.K (.ref fI) = some (.type "function"))
    (F1 : FnOk X.prog X.w X.K X.mg X.base CX k fI fd ["self"] spPass) (hr : Room (k + 1) X.A) (hb : Binds X.K fd ["self"] []) (hx : Passes CX X (fun _ _ _ => False)) (hg : Gl X x) (hm : X.mg x = some (.ref C))
    (hdb : (x == ("__debug__" : Str)) = false := by decide) :
    PMk X (.Call (.Name x p) [] [] pos) (fun σ H Q => (∀ a, H a = none → Q (.ref C) none (del (upd H a (exo a C none)) a))) := by
  intro pins s σ H Q I h
  obtain ⟨nm, q, N, bs, bm, sn, sub, ab, col, dd, k0, k1, k2, k3, k5, hC, hbm⟩ := T.cls
  refine wpAny_Call_Name_kw (ld_glob I hg hm ?_ hdb)
  refine PySem.W.callWith_K0 I.kIn T.kC ?_
  show wpAny _ _ (call (.ref C) []) _ _ _
  obtain ⟨hp, g, dr, tk, os⟩ := s
  have hsz : hp.objs.size ≤ hp.objs.size + 1 := Nat.le_succ _
  have hn : H (hp.objs.size + 1) = none := I.hok.fresh hsz
  have hq := h (hp.objs.size + 1) hn
  have kk : ∀ b o, hp.get? b = some o → ((hp.push (PySem.W.kdv_tup [])).push (PySem.HandSPX.excO C hp.objs.size)).get? b = some o := fun b o e => Heap.get?_push_of_some _ (Heap.get?_push_of_some _ e)
  have hget : ((hp.push (PySem.W.kdv_tup [])).push (PySem.HandSPX.excO C hp.objs.size)).get? (hp.objs.size + 1) = some (PySem.HandSPX.excO C hp.objs.size) := by heap_get
  have I2 : L2.Inv X pins σ (upd H (hp.objs.size + 1) (exo (hp.objs.size + 1) C none)) ⟨(hp.push (PySem.W.kdv_tup [])).push (PySem.HandSPX.excO C hp.objs.size), g, dr, tk, os⟩ :=
    I.laid (t' := tk) (a := hp.objs.size + 1) (o := exo (hp.objs.size + 1) C none) (h' := (hp.push (PySem.W.kdv_tup [])).push (PySem.HandSPX.excO C hp.objs.size)) kk hsz (exo_ok hget)
  have r2 : Vals [V.ref (hp.objs.size + 1)] [Value.ref (hp.objs.size + 1)] := .cons rfl .nil
  have hs : spPass [V.ref (hp.objs.size + 1)] (upd H (hp.objs.size + 1) (exo (hp.objs.size + 1) C none)) (fun v H2 => v = .non ∧ H2 = upd H (hp.objs.size + 1) (exo (hp.objs.size + 1) C none)) (fun _ _ _ => False) := ⟨rfl, rfl, rfl⟩
  refine wpAny_call (PySem.HandSPX.call_own F.excBase_ValueError (fun Y => PySem.HandSPX.refsVE_contains Y bm hbm) (I.kIn _ _ hC) (PySem.W.looks_findIn I.kIn iC) (fun self => PySem.W.bind_fn I.kIn self tI) (by simp)
    (codeAny_mono (F1.run _ X.stack _ _ ⟨[Value.ref (hp.objs.size + 1)], []⟩ [Value.ref (hp.objs.size + 1)] _ _ (fun _ _ _ => False) (hr.make C [] []) (I2.env0.make C [] []) (hb _ [Value.ref (hp.objs.size + 1)] I2.kIn rfl) r2 hs) fun r s' hq' => ?_))
  cases r with
  | error er => exact hx pins σ _ _ er s' I2 hq'
  | ok fl =>
    cases fl with
    | ret u =>
      obtain ⟨v, H2, os2, bare2, un2, hok2, rv, ev, eH⟩ := hq'
      subst ev
      subst eH
      obtain ⟨h2, g2, d2, t2, os'⟩ := s'
      exact ⟨rv, mk_bare (raises_own T.exC T.tyC) I hsz kk un2 hok2 os2 bare2 upd_same hq⟩
    | next => exact False.elim hq'
    | brk => exact False.elim hq'
    | cont => exact False.elim hq'
end
end Vl
end
section
set_option maxRecDepth 100000
/-! Wx2: raise C(), C an own exception whose __init__ does nothing. -/
namespace Vl
open PySem L2
/-- the class x, at C, is made by C() and holds nothing -/
structure Ex0 (P : Program) (w : World) (K : PySem.W.Frag) (mg : Str → Option Value) (base : Heap) (x : Str) (C : Addr) : Prop where
  T : OexC K C
  m : mg x = some (.ref C)
  i : ∃ (fI : Addr) (fd : FuncData), PySem.W.findIn K (.ref C) "__init__" = some (some (.ref fI)) ∧ PySem.W.typeIn K (.ref fI) = some (.type "function") ∧ FnOk P w K mg base (L2.CX P w) 1 fI fd ["self"] spPass ∧ Binds K fd ["self"] []
def sRaise0 (C : Addr) : WS := fun ρ Z => Z.ex ⟨C, []⟩ ρ
theorem del_upd {H : Hp} {a : Addr} {o : HO} (h : H a = none) : del (upd H a o) a = H := by
  funext b
  by_cases e : b = a
  · subst e
    rw [del_same, h]
  · rw [del_ne e, upd_ne e]
theorem rs_raise0 {X : Cx} {x : Str} {C : Addr} {p pos pos2 : Pos} (hc : X.calm = true) (E : Ex0 X.prog X.w X.K X.mg X.base x C) (hr : Room 2 X.A) (hg : Gl X x := by rfl) (hdb : (x == ("__debug__" : Str)) = false := by decide) :
    RfS1 X (.Raise (some (.Call (.Name x p) [] [] pos2)) none pos) (sRaise0 C) := fun ρ Z h B F0 σ H De Wx tk R m => by
  obtain ⟨fI, fd, h1, h2, h3, h4⟩ := E.i
  refine ⟨_, ps_raise hc tk (pmk_oex0 E.T h1 h2 h3 hr h4 (fun pins σ H s e s' I c => passE0 σ pins H s e s' I c) hg E.m hdb), fun a hn => ?_⟩
  obtain ⟨F, RF⟩ := R
  rw [del_upd hn]
  exact m.ex ⟨C, []⟩ ρ _ none F σ H h RF ⟨rfl, .inl ⟨rfl, rfl⟩⟩
/-- an __init__ that is `pass` -/
theorem fn_pass {P : Program} {w : World} {K : PySem.W.Frag} {mg : Str → Option Value} {base : Heap} {qual : Str} {st : Stmt} {f : Addr} {fd : FuncData} {pos : Pos} (F : Fun K "__init__" qual st f fd) (S : FnScope ["self"] ["self"] (defScope st)) (hb : defBody st = [.Pass pos]) : FnOk P w K mg base (L2.CX P w) 1 f fd ["self"] spPass :=
  F.okX S (fun vs H Q E h => h.1) fun cdv A outer s H vs Q E hr h => by
    rw [hb]
    exact ⟨_, pss_cons ps_pass pss_nil, h.2⟩
end Vl
end
section
set_option maxRecDepth 100000
/-! Wx3: try: .. except x as n: .., nothing raised in the suite. -/
namespace Vl
open PySem L2
section
variable {K : PySem.W.Frag} {B F0 F H : Hp} {ρ : Rho} {σ : L2.St}
end
end Vl
end
section
set_option maxRecDepth 100000
/-! Wx4: raise C(e); in an except suite: isinstance(e, C), x = e.f; the choice of what is caught by lists. -/
namespace Vl
open PySem L2
section
variable {K : PySem.W.Frag} {B F0 F H : Hp} {ρ : Rho} {σ : L2.St}
end
/-! ### raise C(e) -/
/-- what an __init__ keeps that sets one field -/
def spSet1 (K : PySem.W.Frag) (f : Str) : L2.Sp := fun vs H Q _ => ∃ (a C : Addr) (y : V), vs = [.ref a, y] ∧ OexC K C ∧ PySem.W.findIn K (.ref C) f = some none ∧ H a = some (exo a C none) ∧ ∀ dx, H dx = none → dx ≠ a → Q .non (upd (upd H dx (exd dx [(f, y)])) a (exo a C (some dx)))
/-- the class x, at C, is made by C(v) and holds v as f -/
structure Ex1 (P : Program) (w : World) (K : PySem.W.Frag) (mg : Str → Option Value) (base : Heap) (x : Str) (C : Addr) (f : Str) : Prop where
  T : OexC K C
  m : mg x = some (.ref C)
  no : PySem.W.findIn K (.ref C) f = some none
  i : ∃ (fI : Addr) (fd : FuncData) (p : Str), PySem.W.findIn K (.ref C) "__init__" = some (some (.ref fI)) ∧ PySem.W.typeIn K (.ref fI) = some (.type "function") ∧ FnOk P w K mg base (L2.CX P w) 1 fI fd ["self", p] (spSet1 K f) ∧ Binds K fd ["self", p] []
/-- what the table says of an except clause -/
def ExmL (K : PySem.W.Frag) (c : Value) (L : List (Addr × Bool)) : Prop := ∀ q ∈ L, PySem.W.exmOne K (.ref q.1) c = some q.2
theorem exmL_nil {K : PySem.W.Frag} {c : Value} : ExmL K c [] := fun q h => by simp at h
theorem exmL_cons {K : PySem.W.Frag} {c : Value} {D : Addr} {b : Bool} {L : List (Addr × Bool)} (h2 : PySem.W.exmOne K (.ref D) c = some b) (h : ExmL K c L) : ExmL K c ((D, b) :: L) := fun q hq => by
  rcases List.mem_cons.mp hq with rfl | hq
  · exact h2
  · exact h q hq
section
variable {X : Cx} {a c : Addr} {oe : Obj} {d : Option Addr} {pn : List (Addr × Obj)} {n x f : Str} {xn : Xn} {L : List (Addr × Bool)} {p p1 p2 pos pos' : Pos} {e : Expr} {we : WE} {sts : List Stmt} {w : WS}
theorem rs_setN (i : Nat) (nd : X.N.Nodup) (he : RfE X e we) (hi : X.N[i]? = some x := by rfl) (hx : Loc X.env.scope x := by first | exact Or.inl rfl | exact Or.inr rfl) (hs : swapsWith e (some (.Name x pos')) pos.line X.env = pure false := by rfl)
    (hf : X.fn x = true ∨ X.env.scope.names.lookup x = some .local := by first | exact .inl rfl | exact .inr rfl) : RfS1 X (.Assign [.Name x pos'] e pos) (sSet i we) := fun ρ Z h => s1_of (ps_set nd hi hx (pe_u X e) hs hf) fun B F0 σ H De Wx tk R m => he _ _ _ h B F0 [] [] σ H _ Wx tk rfl R (fun r ρ1 v H1 h1 R1 => m.nx _ _ H1 h1 (Rl.setS R1)) (fun x ρ1 cls d F H' hx RF xd => m.ex x ρ1 cls d F σ H' hx RF xd)
end
theorem gd_tr {X : Cx} (g : Gd X) {pn : List (Addr × Obj)} {xe : Value → Shared → Prop} (own : PassesOwn (model X.prog X.w) X.A X.env xe) : Gd (X.tr pn xe) := ⟨own, g.calm, g.nd, g.hu⟩
end Vl
end
section
set_option maxRecDepth 100000
/-! Wx5: what is told of an own exception class, out of the table. -/
namespace Vl
open PySem L2
/-- the class x, at C: known by name, its instances asked for their class and their fields -/
structure ExI (K : PySem.W.Frag) (mg : Str → Option Value) (x : Str) (C : Addr) : Prop where
  m : mg x = some (.ref C)
  I : ExcC K C
  F : XfC K C
theorem exI_mk {K : PySem.W.Frag} {h : Heap} {mg : Str → Option Value} {x : Str} {C : Addr} (X : K.In h) (G : h.Ns mainGlobals mg) (a : PySem.W.nsIn K mainGlobals x = some (some (.ref C)))
    (h1 : PySem.W.findIn K (.ref C) "__getattribute__" = some (some (.builtin "BaseException.__getattribute__"))) (h2 : PySem.W.findIn K (.ref C) "__getattr__" = some none) (h3 : PySem.W.subIn K (.ref C) (.type "BaseException") = some true) (h4 : PySem.W.hasDictIn K C = true)
    (h5 : PySem.W.findIn K (.ref C) "__class__" = some (some (.builtin "object.__class__"))) (h6 : PySem.W.specialIn K (.builtin "object.__class__") "__get__" = some (some (.builtin "getset_descriptor.__get__"))) (h7 : PySem.W.takesIn K (.builtin "object.__class__") = some true) (h8 : PySem.W.mroIn K C (.type "object") = some true) : ExI K mg x C :=
  ⟨PySem.W.mg_of X G a, ⟨h1, h2, h3, h4, h5, h6, h7, h8⟩, ⟨h1, h2, h3, h4⟩⟩
theorem exo_mk {K : PySem.W.Frag} {C : Addr} {nm q N bs bm sn sub ab col dd k0 k1 k2 k3 k5} (l : K.lookup C = some (excClassObj nm q C N bs bm true sn sub ab col dd k0 k1 k2 k3 k5 "ValueError.__new__")) (r : PySem.HandSPX.refsVE bm = true) (sa : PySem.W.findIn K (.ref C) "__setattr__" = some (some (.builtin "object.__setattr__")))
    (h3 : PySem.W.subIn K (.ref C) (.type "BaseException") = some true) (tC : PySem.W.typeIn K (.ref C) = some (.type "type")) (kC : PySem.W.keepIn K (.ref C) = true) : OexC K C :=
  ⟨⟨nm, q, N, bs, bm, sn, sub, ab, col, dd, k0, k1, k2, k3, k5, l, r⟩, sa, h3, tC, kC⟩
theorem exm_own {K : PySem.W.Frag} {C D : Addr} {b : Bool} (h1 : PySem.W.subIn K (.ref C) (.type "BaseException") = some true) (hd : PySem.W.hasDictIn K C = true) (ht : PySem.W.typeIn K (.ref C) = some (.type "type")) (h4 : PySem.W.subIn K (.ref D) (.ref C) = some b) : PySem.W.exmOne K (.ref D) (.ref C) = some b := PySem.W.exm_ref h1 hd ht h4
end Vl
end
section
set_option maxRecDepth 100000
/-! Wx6: min of a list of texts whose first one is the least. -/
namespace Vl
open PySem PySem.Spec PyProof.Rows L2
end Vl
end
section
set_option maxRecDepth 100000
/-! Wx7: xs.append(isinstance(e, C) and e.f == n) right behind the catch: the exception's dict is known. -/
namespace Vl
open PySem L2
section
variable {X : Cx} {F : Hp} {a b : Expr} {rest : List Expr} {wa wb : WE} {pos : Pos}
end
section
variable {X : Cx} {F : Hp} {a c : Addr} {oe : Obj} {d : Option Addr} {pn : List (Addr × Obj)} {n x f xa : Str} {xn : Xn} {L : List (Addr × Bool)} {p p1 p2 pos pa apos cpos : Pos} {e : Expr} {we : WE}
end
end Vl
end
section
set_option maxRecDepth 100000
/-! Wx8: == and != of plain data, bools among them. -/
namespace Vl
open PySem L2
/-- data that may be compared as it stands -/
def eqP (d : D) : Prop := d.plain = true ∧ SeqAt.shaped d.py = true
def wEqP (neg : Bool) (a b : WE) : WE := fun ρ Φ Ξ => a ρ (fun r ρ1 => b ρ1 (fun s ρ2 => eqP r.d ∧ eqP s.d ∧ Φ (.v (.bl (if neg then !PyData.eqv r.d.py s.d.py else PyData.eqv r.d.py s.d.py))) ρ2) Ξ) Ξ
section
variable {X : Cx} {a b : Expr} {wa wb : WE} {pos : Pos}
end
end Vl
end
section
set_option maxRecDepth 100000
/-! Wy1: defs as values: a def's name, a call of a name that holds one; list(d); xs[b][k] = True, xs a list of dicts. -/
namespace Vl
open PySem L2
section
variable {X : Cx} {a b k e : Expr} {es : List Expr} {wa wb we wk : WE} {va : WA} {p pos pa pn pn2 : Pos} {xa x f : Str}
end
end Vl
end
section
set_option maxRecDepth 100000
/-! Wy2: zip of a list and a tuple. -/
namespace L2
open PySem PySem.Spec PyProof.Rows PySem.Vy
section
variable {P : Program} {w : World} {K : PySem.W.Frag} {elts : List Expr} {kk : Nat} {tpos : Pos}
end
end L2
namespace Vl
open PySem L2
section
variable {X : Cx} {a b : Expr} {va : WA} {elts : List Expr} {kk : Nat} {p pos tpos : Pos}
end
end Vl
end
section
end
section
set_option maxRecDepth 100000
namespace Vl
open PySem L2
def cd_lranks47 : WS :=
  sSeq (sSet 1 (wRep (wD .non) (wIx (wVar 0) (wD (.int 0)))))
  (sSeq (sFor (iRng2 (aCons (wD (.int 1)) (aCons (wBin .Add (wIx (wVar 0) (wD (.int 0))) (wD (.int 1))) (aNil)))) (gName 2) (sSeq (sSet 3 (wLst (aNil)))
  (sSeq (sFor (iRng1 (aCons (wIx (wVar 0) (wD (.int 0))) (aNil))) (gName 4) (sSeq (sIf (tVal (wCmp .Is (wIxO 1 (wVar 4)) (wD .non))) (sSeq (sSet 5 (wFrz (wLc [6, 7, 8] (iVal (wCallS (sp_psteps) (aCons (wVar 0) (aCons (wVar 4) (aNil))))) (gTup (gCons (gName 6) (gCons (gName 7) (gCons (gName 8) (gNil))))) (tVal (wCmp .Is (wIxO 1 (wVar 8)) (wD .non))) (wB bMax2 (aCons (wD (.int 1)) (aCons (wVar 7) (aNil)))))))
  (sSeq (sIf (tVal (wCmp .Lt (wB bSum (aCons (wLc [7] (iVal (wVar 5)) (gName 7) (tYes) (wBin .FloorDiv (wD (.int 2520)) (wVar 7))) (aNil))) (wD (.int 2520)))) (sSeq (sApp 3 (wFrz (wVar 4)))
  (sNil)) (sNil))
  (sNil))) (sNil))
  (sNil)))
  (sSeq (sFor (iVal (wVar 3)) (gName 4) (sSeq (sPut 1 (wVar 4) (wFrz (wVar 2)))
  (sNil)))
  (sNil)))))
  (sSeq (sRet (wMov 1))
  (sNil)))
def sp_lranks47 : Sp := fun ds Q _ => ∃ (n : Int) (as : List Arw), ds = [toldD n as] ∧ Good n as ∧ Q (foundT n (rankF n as))
theorem turn_all {n : Int} {as : List Arw} : turnF n as n.toNat = rankF n as := by
  by_cases h : ∀ s, s < n.toNat → shortL as (leftF n (turnF n as s)) ≠ []
  · have h1 := turn_many n.toNat h
    have h2 : leftF n (turnF n as n.toNat) = [] := List.eq_nil_of_length_eq_zero (by omega)
    refine turn_end ?_ h
    rw [h2]
    rfl
  · obtain ⟨s, h1⟩ := Classical.not_forall.mp h
    obtain ⟨hs, h2⟩ := Classical.not_imp.mp h1
    have h2 : shortL as (leftF n (turnF n as s)) = [] := Classical.not_not.mp h2
    unfold rankF
    rw [show n.toNat = s + (n.toNat - s) by omega, turn_still h2, show s + (n.toNat - s) + 1 = s + (n.toNat - s + 1) by omega, turn_still h2]
theorem found_at {n : Int} {f : Int → Option Int} {p : Int} (p0 : 0 ≤ p) (p1 : p < n) : atI ((rngI n.toNat).map fun p => T.v (optD (f p))) p = some (T.v (optD (f p))) := by
  have := at_nat (xs := (rngI n.toNat).map fun p => T.v (optD (f p))) (i := p.toNat) (x := T.v (optD (f p))) (by
    unfold rngI
    rw [List.getElem?_map, List.getElem?_map, List.getElem?_range (by omega)]
    show some (T.v (optD (f ((p.toNat : Nat) : Int)))) = _
    rw [show ((p.toNat : Nat) : Int) = p by omega])
  rwa [show ((p.toNat : Nat) : Int) = p by omega] at this
theorem optD_isN {o : Option Int} : (optD o).isN = o.isNone := by cases o <;> rfl
theorem range_split {m i : Nat} {pre post : List Nat} (e : List.range m = pre ++ i :: post) : i = pre.length ∧ pre.length < m := by
  have hl := congrArg List.length e
  rw [List.length_range, List.length_append, List.length_cons] at hl
  have h := congrArg (fun l : List Nat => l[pre.length]?) e
  simp only [List.getElem?_append_right (Nat.le_refl _), Nat.sub_self, List.getElem?_cons_zero] at h
  rw [List.getElem?_range (by omega)] at h
  cases h
  exact ⟨rfl, by omega⟩
theorem bstr_mem {n : Int} {as : List Arw} {t : Nat} {q : Int} : q ∈ (rngI n.toNat).filter (fun p => decide (p ∈ shortL as (leftF n (turnF n as t)))) ↔ q ∈ shortL as (leftF n (turnF n as t)) := by
  rw [List.mem_filter, decide_eq_true_eq, rngI_mem]
  exact ⟨fun h => h.2, fun h => ⟨by have := (leftF_mem.mp (shortL_mem.mp h).1).1; omega, h⟩⟩
theorem in_pays {n : Int} {as : List Arw} {p : Int} {f : Int → Option Int} (ok : Good n as) : inS as p (leftF n f) = ((((stepsOf as p).filter fun a => (f a.2.2.2).isNone).map fun a => max 1 a.2.2.1).map fun x => 2520 / x).sum := by
  unfold inS
  rw [List.map_map]
  have h : (stepsOf as p).filter (fun a => decide (a.2.2.2 ∈ leftF n f)) = (stepsOf as p).filter fun a => (f a.2.2.2).isNone := List.filter_congr fun a ha => by
    have ao := ok.ok a (steps_sub ha).1
    rw [Bool.eq_iff_iff, decide_eq_true_eq, leftF_mem, Option.isNone_iff_eq_none]
    exact ⟨fun z => z.2, fun z => ⟨⟨ao.t0, ao.t1⟩, z⟩⟩
  rw [h]
  congr 1
  refine List.map_congr_left fun a _ => ?_
  show 2520 / max a.2.2.1 1 = 2520 / max 1 a.2.2.1
  rw [show max a.2.2.1 1 = max 1 a.2.2.1 by omega]
theorem wp_lranks47 (ds : List D) (Q : T → Prop) (Qx : Xn → Prop) (h : sp_lranks47 ds Q Qx) : cd_lranks47 ((ds.map fun d => some (T.v d)) ++ List.replicate (9 - ds.length) none) { nx := fun _ => Q (.v .non), rt := fun r _ => Q r, ex := fun x _ => Qx x } := by
  obtain ⟨n, as, rfl, ok, q⟩ := h
  change cd_lranks47 [some (.v (toldD n as)), none, none, none, none, none, none, none, none] _
  unfold cd_lranks47
  have n1 := ok.n1
  have n2 := ok.n2
  have l2 := ok.l2
  rw [← turn_all] at q
  have htd : D.tup [.int n, asD as] = toldD n as := rfl
  ((try dsimp only); (try simp only [toldD]); rw [sSeq_def]; simp only [sSet, wRep, wD, wIx, wVar, slot, T.d_v, T.v.injEq, List.set_cons_succ, List.set_cons_zero, ixW_t, atI_0, Option.some.injEq, exists_eq_left', D.int.injEq])
  refine ⟨by omega, by omega, ?_⟩
  rw [found0 (as := as)]
  ((try dsimp only); rw [sSeq_def]; simp only [sFor, iRng2, aCons, wD, wBin, wIx, wVar, slot, T.d_v, aNil, List.cons.injEq, D.int.injEq, and_true, ixW_t, atI_0, Option.some.injEq, exists_eq_left', binW_ai, ex2_eq])
  refine ⟨⟨by decide, by decide, by omega, by omega⟩, ?_⟩
  refine forP_map (List.range (n + 1 - 1).toNat) (fun i : Nat => D.int (1 + (i : Int))) (fun pre ρ => ∃ (x2 x3 x4 x5 : Option T), ρ = [some (.v (.tup [.int n, asD as])), some (foundT n (turnF n as pre.length)), x2, x3, x4, x5, none, none, none]) ⟨_, _, _, _, rfl⟩ ?_ ?_
  · rintro pre i post ρ e0 ⟨x2, x3, x4, x5, rfl⟩
    obtain ⟨ei, hi⟩ := range_split e0
    subst ei
    clear e0
    rw [List.length_append, List.length_singleton]
    obtain ⟨t, ht⟩ : ∃ t, t = pre.length := ⟨_, rfl⟩
    rw [← ht] at hi ⊢
    clear ht
    simp only [gName, List.set_cons_succ, List.set_cons_zero]
    ((try dsimp only); rw [sSeq_def]; simp only [sSet, wLst, aNil, lenk_0, List.map_nil, List.set_cons_succ, List.set_cons_zero, true_and])
    ((try dsimp only); rw [sSeq_def]; simp only [sFor, iRng1, aCons, wIx, wVar, slot, wD, T.d_v, aNil, List.cons.injEq, and_true, ixW_t, atI_0, Option.some.injEq, exists_eq_left', D.int.injEq])
    refine ⟨by omega, by omega, ?_⟩
    rw [rng_map]
    refine forP_map (rngI n.toNat) D.int (fun pp ρ => ∃ (x4 x5 : Option T), ρ = [some (.v (.tup [.int n, asD as])), some (foundT n (turnF n as t)), some (.v (.int (1 + (t : Int)))), some (T.lst (((pp.filter fun p => decide (p ∈ shortL as (leftF n (turnF n as t)))).map D.int).map T.v)), x4, x5, none, none, none]) ⟨_, _, rfl⟩ ?_ ?_
    · rintro pp p post2 ρ e2 ⟨x4, x5, rfl⟩
      obtain ⟨p0, p1⟩ := rngI_mem.mp (show p ∈ rngI n.toNat by rw [e2]; simp)
      replace p1 : p < n := by omega
      have hpl : pp.length ≤ 12 := by
        have := congrArg List.length e2
        rw [rngI_len, List.length_append] at this
        omega
      clear e2
      have sl := steps_len as p
      simp only [gName, foundT, List.set_cons_succ, List.set_cons_zero]
      ((try dsimp only); rw [sSeq_def]; simp only [sIf, tVal, wCmp, wIxO, slot, Option.some.injEq, exists_eq', wVar, T.v.injEq, D.int.injEq, wD, T.d_v, D.bl.injEq, sNil, List.cons.injEq, and_true, true_and, exists_eq_left', cmpW_is, isW_n])
      refine ⟨_, found_at p0 p1, ?_⟩
      have hfil : ∀ b : Bool, decide (p ∈ shortL as (leftF n (turnF n as t))) = b → (pp ++ [p]).filter (fun p => decide (p ∈ shortL as (leftF n (turnF n as t)))) = pp.filter (fun p => decide (p ∈ shortL as (leftF n (turnF n as t)))) ++ if b = true then [p] else [] := fun b e => by
        rw [List.filter_append, List.filter_cons, e]
        cases b <;> rfl
      have hle : ((pp.filter fun p => decide (p ∈ shortL as (leftF n (turnF n as t)))).map D.int).length ≤ 12 := by
        rw [List.length_map]
        exact Nat.le_trans (List.length_filter_le _ _) hpl
      refine ⟨fun e => ?_, fun e => ?_⟩
      · have hn : turnF n as t p = none := by
          cases h : turnF n as t p with
          | none => rfl
          | some r => rw [h] at e; cases e
        have hin : (p ∈ shortL as (leftF n (turnF n as t))) ↔ inS as p (leftF n (turnF n as t)) < 2520 := by
          rw [shortL_mem]
          exact ⟨fun h => h.2, fun h => ⟨leftF_mem.mpr ⟨⟨p0, p1⟩, hn⟩, h⟩⟩
        rw [in_pays ok] at hin
        generalize hsome : (((stepsOf as p).filter fun a => (turnF n as t a.2.2.2).isNone).map fun a => max 1 a.2.2.1) = some_ at hin
        have hs1 : ∀ x ∈ some_, 1 ≤ x ∧ x ≤ 9 := fun x hx => by
          rw [← hsome] at hx
          obtain ⟨a, ha, rfl⟩ := List.mem_map.mp hx
          have ao := ok.ok a (steps_sub (List.mem_filter.mp ha).1).1
          have := ao.p1
          omega
        have hs2 : some_.length ≤ 60 := by
          rw [← hsome, List.length_map]
          have := List.length_filter_le (fun a => (turnF n as t a.2.2.2).isNone) (stepsOf as p)
          omega
        ((try dsimp only); rw [sSeq_def]; simp only [sSet, wFrz, wLc, iVal, wCallS, aCons, wVar, slot, aNil, T.d_v])
        refine ⟨n, as, p, rfl, ok, ?_⟩
        simp only [lst_vd, walkW_l]
        refine lcP_fm (stepsOf as p) edD (fun a => (turnF n as t a.2.2.2).isNone) (fun a => .int (max 1 a.2.2.1)) (by omega) (fun a ha P1 P0 h1 h0 => ?_) ?_
        · have ao := ok.ok a (steps_sub ha).1
          have hf := found_at (f := turnF n as t) ao.t0 ao.t1
          simp only [edD, wipeR, List.set_cons_succ, List.set_cons_zero, tVal, wCmp, wIxO, wVar, T.v.injEq, wD, T.d_v, D.bl.injEq, wB, aCons, aNil, exists_eq_left', cmpW_is, isW_n, gTup_t, gCons_c, gName, gNil_n, slot, Option.some.injEq, exists_eq', D.int.injEq, bMax2_i, true_and]
          refine ⟨_, hf, fun e => h1 _ rfl ?_, fun e => h0 _ rfl ?_⟩
          · rw [optD_isN] at e
            exact e
          · rw [optD_isN] at e
            exact e
        rw [show ((stepsOf as p).filter fun a => (turnF n as t a.2.2.2).isNone).map (fun a => D.int (max 1 a.2.2.1)) = some_.map D.int by rw [← hsome, List.map_map]; rfl]
        simp only [wipeR, List.set_cons_succ, List.set_cons_zero, restR_cons, slot, keepV_n, restR_nil, lst_vd]
        ((try dsimp only); rw [sSeq_def]; simp only [sIf, tVal, wCmp, wB, aCons, wLc, iVal, wVar, slot, T.d_v, aNil, wD, T.v.injEq, D.bl.injEq, sNil, exists_eq_left', cmpW_lt, walkW_l])
        refine lcP_map some_ D.int (fun x => .int (2520 / x)) (by omega) (fun x hx P1 h1 => ?_) ?_
        · obtain ⟨y1, y9⟩ := hs1 x hx
          simp only [gName, wBin, wD, wVar, wipeR, List.set_cons_succ, List.set_cons_zero, slot, T.d_v, binW_d]
          exact ⟨.inl ⟨by omega, by omega⟩, h1 _ rfl⟩
        rw [show some_.map (fun x => D.int (2520 / x)) = (some_.map fun x => 2520 / x).map D.int by rw [List.map_map]; rfl]
        simp only [lst_vd, wipeR, List.set_cons_succ, List.set_cons_zero, restR_cons, slot, keepV_n, restR_nil, List.cons.injEq, Option.some.injEq, and_true, true_and, bSum_l, T.d_v, ltW_i]
        refine ⟨_, rfl, ?_⟩
        refine ⟨fun e3 => ?_, fun e3 => ?_⟩
        · have hm := hin.mpr (of_decide_eq_true e3)
          rw [hfil true (decide_eq_true hm), if_pos rfl]
          ((try dsimp only); rw [sSeq_def]; simp only [sApp, onL, slot, List.set_cons_succ, List.set_cons_zero, ex_app2, wFrz, wVar, sNil, T.d_v, List.cons.injEq, Option.some.injEq, and_true, true_and])
          refine ⟨by rw [List.length_map]; omega, ?_⟩
          rw [List.map_append, List.map_append]
          exact ⟨_, _, rfl, rfl, rfl⟩
        · have hm : ¬ p ∈ shortL as (leftF n (turnF n as t)) := fun z => of_decide_eq_false e3 (hin.mp z)
          rw [hfil false (decide_eq_false hm), if_neg (by decide), List.append_nil]
          exact ⟨_, _, rfl, rfl, rfl⟩
      · have hn : ¬ p ∈ shortL as (leftF n (turnF n as t)) := fun h => by
          have := (leftF_mem.mp (shortL_mem.mp h).1).2
          rw [this] at e
          cases e
        rw [hfil false (decide_eq_false hn), if_neg (by decide), List.append_nil]
        exact ⟨_, _, rfl, rfl, rfl⟩
    · rintro ρ ⟨x4, x5, rfl⟩
      ((try dsimp only); rw [sSeq_def]; simp only [sFor, iVal, wVar, slot, lst_vd, T.d_v, List.set_cons_succ, List.set_cons_zero, sNil, walkW_l])
      refine forP_map ((rngI n.toNat).filter fun p => decide (p ∈ shortL as (leftF n (turnF n as t)))) D.int (fun pp ρ => ∃ (x4 x5 : Option T) (x3 : T), ρ = [some (.v (.tup [.int n, asD as])), some (foundT n fun q => if q ∈ pp then some ((t : Int) + 1) else turnF n as t q), some (.v (.int (1 + (t : Int)))), some x3, x4, x5, none, none, none]) ⟨x4, x5, .v (.lst (((rngI n.toNat).filter fun p => decide (p ∈ shortL as (leftF n (turnF n as t)))).map D.int)), by simp⟩ ?_ ?_
      · rintro pp p post2 ρ e2 ⟨x4, x5, x3, rfl⟩
        have hm := bstr_mem.mp (show p ∈ (rngI n.toNat).filter (fun p => decide (p ∈ shortL as (leftF n (turnF n as t)))) by rw [e2]; simp)
        have hp : 0 ≤ p ∧ p < n := (leftF_mem.mp (shortL_mem.mp hm).1).1
        simp only [gName, foundT, List.set_cons_succ, List.set_cons_zero]
        ((try dsimp only); rw [sSeq_def]; simp only [sPut, onL, slot, List.set_cons_succ, List.set_cons_zero, ex_app2, wFrz, wVar, T.v.injEq, D.int.injEq, List.length_map, rngI_len, sNil, T.d_v, List.cons.injEq, Option.some.injEq, and_true, true_and, exists_eq_left'])
        refine ⟨_, ixN_int hp.1 (by omega), ?_⟩
        rw [show (1 + (t : Int)) = (t : Int) + 1 by omega, found_set (f := fun q => if q ∈ pp then some ((t : Int) + 1) else turnF n as t q) hp.1 hp.2, step_found]
        exact ⟨_, _, _, rfl, rfl, rfl, rfl⟩
      · rintro ρ ⟨x4, x5, x3, rfl⟩
        have hfe : (fun q => if q ∈ (rngI n.toNat).filter (fun p => decide (p ∈ shortL as (leftF n (turnF n as t)))) then some ((t : Int) + 1) else turnF n as t q) = turnF n as (t + 1) := by
          funext q
          rw [turnF]
          by_cases h : q ∈ shortL as (leftF n (turnF n as t))
          · rw [if_pos h, if_pos (bstr_mem.mpr h)]
          · rw [if_neg h, if_neg fun z => h (bstr_mem.mp z)]
        rw [hfe]
        exact ⟨_, _, _, _, rfl⟩
  · rintro ρ ⟨x2, x3, x4, x5, rfl⟩
    ((try dsimp only); rw [sSeq_def]; simp only [sRet, wMov, slot])
    rw [List.length_range, show (n + 1 - 1).toNat = n.toNat by omega]
    exact q
theorem ln_lranks47 : ∀ ds Q Qx, sp_lranks47 ds Q Qx → ds.length = 1 := by rintro ds Q Qx ⟨n, as, rfl, _⟩; rfl
end Vl
end
section
set_option maxRecDepth 100000
namespace Vl
open PySem L2
/-- what has been found, t rounds gone -/
structure Fnd (as : List Arw) (p : Int) (t : Nat) (L : List Int) : Prop where
  nd : L.Nodup
  st : p ∈ L
  re : ∀ x ∈ L, Reach as p x
  cl : t + 1 ≤ L.length ∨ ∀ a ∈ as, a.1 ∈ L → a.2.2.2 ∈ L
structure FndM (as : List Arw) (p : Int) (L0 : List Int) (dn : List Arw) (L : List Int) : Prop where
  nd : L.Nodup
  sub : ∀ x ∈ L0, x ∈ L
  re : ∀ x ∈ L, Reach as p x
  le : L0.length ≤ L.length
  gr : L0.length < L.length ∨ (L = L0 ∧ ∀ a ∈ dn, a.1 ∈ L0 → a.2.2.2 ∈ L0)
  kp : (∀ a ∈ as, a.1 ∈ L0 → a.2.2.2 ∈ L0) → L = L0
theorem Fnd.len {n p : Int} {as : List Arw} {L : List Int} (ok : Good n as) (p0 : 0 ≤ p) (p1 : p < n) (nd : L.Nodup) (re : ∀ x ∈ L, Reach as p x) : L.length ≤ 12 := by
  have := nodup_le L ((List.range n.toNat).map fun i : Nat => (i : Int)) nd fun x hx => by
    obtain ⟨a, b⟩ := (re x hx).range ok p0 p1
    exact List.mem_map.mpr ⟨x.toNat, by simp; omega, by omega⟩
  simp at this
  have := ok.n2
  omega
theorem flat_intL {xs : List Int} : (xs.map D.int).all D.flat = true := by
  rw [List.all_map, List.all_eq_true]; intro x _; rfl
end Vl
end
section
set_option maxRecDepth 100000
namespace Vl
open PySem L2
def cd_lreached47 : WS :=
  sSeq (sSet 2 (wLst (aCons (wVar 1) (aNil))))
  (sSeq (sFor (iRng1 (aCons (wIx (wVar 0) (wD (.int 0))) (aNil))) (gName 3) (sSeq (sFor (iVal (wLendE false 2 (wB bList (aCons (wVar 2) (aNil))))) (gName 4) (sSeq (sFor (iVal (wCallS (sp_psteps) (aCons (wVar 0) (aCons (wVar 4) (aNil))))) (gTup (gCons (gName 5) (gCons (gName 6) (gCons (gName 7) (gNil))))) (sSeq (sIf (tVal (wInO true (wVar 7) 2)) (sSeq (sApp 2 (wFrz (wVar 7)))
  (sNil)) (sNil))
  (sNil)))
  (sNil)))
  (sNil)))
  (sSeq (sRet (wMov 2))
  (sNil)))
def sp_lreached47 : Sp := fun ds Q _ => ∃ (n : Int) (as : List Arw) (p : Int), ds = [toldD n as, .int p] ∧ Good n as ∧ 0 ≤ p ∧ p < n ∧ ∀ L : List Int, L.Nodup → L.length ≤ 12 → (∀ x, x ∈ L ↔ Reach as p x) → Q (.lst ((L.map D.int).map T.v))
structure FndN (as : List Arw) (p : Int) (L0 dn : List Int) (M : List Int) : Prop where
  nd : M.Nodup
  sub : ∀ x ∈ L0, x ∈ M
  re : ∀ x ∈ M, Reach as p x
  gr : L0.length < M.length ∨ M = L0
  dn : ∀ x ∈ dn, ∀ a ∈ stepsOf as x, a.2.2.2 ∈ M
  kp : (∀ a ∈ as, a.1 ∈ L0 → a.2.2.2 ∈ L0) → M = L0
theorem len_n {n p : Int} {as : List Arw} {L : List Int} (ok : Good n as) (p0 : 0 ≤ p) (p1 : p < n) (nd : L.Nodup) (re : ∀ x ∈ L, Reach as p x) : L.length ≤ n.toNat := by
  have := nodup_le L ((List.range n.toNat).map fun i : Nat => (i : Int)) nd fun x hx => by
    obtain ⟨a, b⟩ := (re x hx).range ok p0 p1
    exact List.mem_map.mpr ⟨x.toNat, by simp; omega, by omega⟩
  simpa using this
theorem wp_lreached47 (ds : List D) (Q : T → Prop) (Qx : Xn → Prop) (h : sp_lreached47 ds Q Qx) : cd_lreached47 ((ds.map fun d => some (T.v d)) ++ List.replicate (8 - ds.length) none) { nx := fun _ => Q (.v .non), rt := fun r _ => Q r, ex := fun x _ => Qx x } := by
  obtain ⟨n, as, p, rfl, ok, p0, p1, q⟩ := h
  change cd_lreached47 [some (.v (toldD n as)), some (.v (.int p)), none, none, none, none, none, none] _
  unfold cd_lreached47
  have n1 := ok.n1
  have n2 := ok.n2
  have l2 := ok.l2
  ((try dsimp only); rw [sSeq_def]; simp only [sSet, wLst, aCons, wVar, slot, aNil, T.d_v, lenk_1, List.map_cons, List.map_nil, List.set_cons_succ, List.set_cons_zero, true_and])
  have h0 : Fnd as p 0 [p] := ⟨by simp, by simp, fun x hx => by simp at hx; subst hx; exact .start, .inl (by simp)⟩
  rw [sSeq_def]
  rw [show T.lst [T.v (D.int p)] = T.lst (([p].map D.int).map T.v) from rfl]
  generalize hL : [p] = L1 at h0 ⊢
  clear hL
  simp only [sFor, iRng1, aCons, wIx, wVar, slot, toldD, wD, T.d_v, aNil, List.cons.injEq, and_true, ixW_t, atI_0, Option.some.injEq, exists_eq_left', D.int.injEq]
  refine ⟨by omega, by omega, ?_⟩
  rw [rng_map]
  refine forP_map (rngI n.toNat) D.int (fun pre ρ => ∃ (L : List Int) (x3 x4 x5 x6 x7 : Option T), ρ = [some (.v (.tup [.int n, asD as])), some (.v (.int p)), some (.lst ((L.map D.int).map T.v)), x3, x4, x5, x6, x7] ∧ Fnd as p pre.length L) ⟨L1, none, none, none, none, none, rfl, h0⟩ ?_ ?_
  · rintro pre t post ρ' e ⟨L, x3, x4, x5, x6, x7, rfl, hf⟩
    have l12 := Fnd.len ok p0 p1 hf.nd hf.re
    ((try dsimp only); (try simp only [gName, List.set_cons_succ, List.set_cons_zero]); rw [sSeq_def]; simp only [sFor, iVal, wLendE, slot, Option.some.injEq, wB, aCons, wVar, plainR_x, plainO_v, plainO_l, plainR_nil, List.set_cons_succ, List.set_cons_zero, aNil, T.d_v, sNil, exists_eq_left', lendO_l, lst_vd, bList_l, walkW_l, true_and])
    refine ⟨Tno_l noL_int, ?_⟩
    refine forP_map L D.int (fun dn ρ => ∃ (M : List Int) (x4 x5 x6 x7 : Option T), ρ = [some (.v (.tup [.int n, asD as])), some (.v (.int p)), some (.lst ((M.map D.int).map T.v)), some (.v (.int t)), x4, x5, x6, x7] ∧ FndN as p L dn M) ⟨L, _, _, _, _, rfl, hf.nd, fun x h => h, hf.re, .inr rfl, (fun x hx => by cases hx), fun _ => rfl⟩ ?_ ?_
    · rintro dn c rest ρ' e2 ⟨M, x4, x5, x6, x7, rfl, hm⟩
      have hcL : c ∈ L := by rw [e2]; simp
      have hcM := hm.sub c hcL
      have sl := steps_len as c
      simp only [gName, List.set_cons_succ, List.set_cons_zero]
      ((try dsimp only); rw [sSeq_def]; simp only [sFor, iVal, wCallS, aCons, wVar, slot, aNil, T.d_v, sNil])
      refine ⟨n, as, c, rfl, ok, ?_⟩
      simp only [lst_vd, walkW_l]
      refine forP_map (stepsOf as c) edD (fun cur ρ => ∃ (M : List Int) (x5 x6 x7 : Option T), ρ = [some (.v (.tup [.int n, asD as])), some (.v (.int p)), some (.lst ((M.map D.int).map T.v)), some (.v (.int t)), some (.v (.int c)), x5, x6, x7] ∧ FndN as p L dn M ∧ ∀ a ∈ cur, a.2.2.2 ∈ M) ⟨M, _, _, _, rfl, hm, fun a ha => by cases ha⟩ ?_ ?_
      · rintro cur a post2 ρ' e3 ⟨M, x5, x6, x7, rfl, hm, hcur⟩
        have haS : a ∈ stepsOf as c := by rw [e3]; simp
        obtain ⟨haA, hac⟩ := steps_sub haS
        have hcM := hm.sub c hcL
        have m12 := Fnd.len ok p0 p1 hm.nd hm.re
        have hre : Reach as p a.2.2.2 := (hm.re _ hcM).step haA hac
        simp only [edD, gTup_t, gCons_c, gName, List.set_cons_succ, List.set_cons_zero, gNil_n]
        ((try dsimp only); rw [sSeq_def]; simp only [sIf, tVal, wInO, wVar, slot, T.d_v, flat_i, Option.some.injEq, reduceCtorEq, or_false, if_true, T.v.injEq, D.bl.injEq, sNil, List.cons.injEq, and_true, true_and, exists_eq_left'])
        refine ⟨M.map D.int, .inl rfl, flat_intL, fun e2 => ?_, fun e2 => ?_⟩
        · rw [any_int, Bool.not_eq_true', decide_eq_false_iff_not] at e2
          ((try dsimp only); rw [sSeq_def]; simp only [sApp, onL, slot, List.set_cons_succ, List.set_cons_zero, ex_app2, wFrz, wVar, sNil, T.d_v, List.cons.injEq, Option.some.injEq, and_true, true_and])
          refine ⟨by simp; omega, M ++ [a.2.2.2], _, _, _, ⟨by simp, rfl, rfl, rfl⟩, ?_, fun b hb => ?_⟩
          · refine ⟨?_, fun x h => by simp [hm.sub x h], fun x hx => ?_, .inl (by
              have : L.length ≤ M.length := by
                rcases hm.gr with g | g
                · omega
                · rw [g]; exact Nat.le_refl _
              rw [List.length_append, List.length_singleton]; omega), fun x hx b hb => by simp [hm.dn x hx b hb], fun z => ?_⟩
            · rw [List.nodup_append]
              exact ⟨hm.nd, by simp, fun x hx y hy e => e2 (by simp at hy; rw [← hy, ← e]; exact hx)⟩
            · rcases List.mem_append.mp hx with h | h
              · exact hm.re x h
              · rw [List.mem_singleton.mp h]; exact hre
            · have := hm.kp z
              exact absurd (by rw [this]; exact z a haA (by rw [hac]; exact hcL)) e2
          · rcases List.mem_append.mp hb with h | h
            · simp [hcur b h]
            · rw [List.mem_singleton.mp h]; simp
        · rw [any_int, Bool.not_eq_false', decide_eq_true_eq] at e2
          refine ⟨M, _, _, _, ⟨rfl, rfl, rfl, rfl⟩, hm, fun b hb => ?_⟩
          rcases List.mem_append.mp hb with h | h
          · exact hcur b h
          · rw [List.mem_singleton.mp h]; exact e2
      · rintro ρ' ⟨M, x5, x6, x7, rfl, hm, hcur⟩
        refine ⟨M, _, _, _, _, rfl, hm.nd, hm.sub, hm.re, hm.gr, fun x hx b hb => ?_, hm.kp⟩
        rcases List.mem_append.mp hx with h | h
        · exact hm.dn x h b hb
        · rw [List.mem_singleton.mp h] at hb
          exact hcur b hb
    · rintro ρ' ⟨M, x4, x5, x6, x7, rfl, hm⟩
      refine ⟨M, _, _, _, _, _, rfl, hm.nd, hm.sub _ hf.st, hm.re, ?_⟩
      rw [List.length_append]
      rcases hf.cl with z | z
      · rcases hm.gr with g | g
        · left; simp; omega
        · right
          intro a ha h
          refine hm.dn a.1 (by rw [← g]; exact h) a ?_
          unfold stepsOf
          exact List.mem_filter.mpr ⟨ha, by simp⟩
      · rw [hm.kp z]; exact .inr z
  · rintro ρ' ⟨L, x3, x4, x5, x6, x7, rfl, hf⟩
    have l12 := Fnd.len ok p0 p1 hf.nd hf.re
    have ln := len_n ok p0 p1 hf.nd hf.re
    have cl : ∀ a ∈ as, a.1 ∈ L → a.2.2.2 ∈ L := by
      rcases hf.cl with z | z
      · rw [rngI_len] at z; omega
      · exact z
    ((try dsimp only); rw [sSeq_def]; simp only [sRet, wMov, slot])
    refine q L hf.nd l12 fun x => ⟨fun h => hf.re x h, fun h => ?_⟩
    induction h with
    | start => exact hf.st
    | step _ ha e ih => exact cl _ ha (by rw [e]; exact ih)
theorem ln_lreached47 : ∀ ds Q Qx, sp_lreached47 ds Q Qx → ds.length = 2 := by rintro ds Q Qx ⟨n, as, p, rfl, _⟩; rfl
end Vl
end
section
set_option maxRecDepth 100000
namespace Vl
open PySem L2
end Vl
end
section
set_option maxRecDepth 100000
namespace Vl
open PySem L2
end Vl
end
section
set_option maxRecDepth 100000
namespace Vl
open PySem L2
end Vl
end
section
set_option maxRecDepth 100000
namespace Vl
open PySem L2
def tupI (xs : List Int) : D := .tup (xs.map D.int)
end Vl
end
section
set_option maxRecDepth 100000
namespace Vl
open PySem L2
/-- the weight of a row, at p, among xs -/
def wgt (p : Int) (xs : List Int) (a : Arw) : Int := if a.1 = p ∧ a.2.2.2 ∈ xs then 2520 / max a.2.2.1 1 else 0
theorem inS_sum (as : List Arw) (p : Int) (xs : List Int) : inS as p xs = (as.map (wgt p xs)).sum := by
  unfold inS stepsOf
  induction as with
  | nil => rfl
  | cons a as ih =>
    rw [List.map_cons, List.sum_cons, ← ih]
    unfold wgt
    by_cases h1 : a.1 = p
    · by_cases h2 : a.2.2.2 ∈ xs
      · rw [List.filter_cons_of_pos (by simpa using h1), List.filter_cons_of_pos (by simpa using h2), if_pos ⟨h1, h2⟩]; rfl
      · rw [List.filter_cons_of_pos (by simpa using h1), List.filter_cons_of_neg (by simpa using h2), if_neg fun h => h2 h.2]; simp
    · rw [List.filter_cons_of_neg (by simpa using h1), if_neg fun h => h1 h.1]; simp
/-- rows with the same places and letters -/
theorem Good.like {n : Int} {as bs : List Arw} (ok : Good n as) (e : bs.map (fun a => (a.1, a.2.1)) = as.map fun a => (a.1, a.2.1)) (hb : ∀ b ∈ bs, ArwOk n b) : Good n bs := by
  have key : ∀ cs : List Arw, cs.Pairwise Bef ↔ (cs.map fun a => (a.1, a.2.1)).Pairwise fun x y : Int × Str => x.1 < y.1 ∨ (x.1 = y.1 ∧ ∃ c d : Nat, x.2 = chr c ∧ y.2 = chr d ∧ c < d) := fun cs => by
    rw [List.pairwise_map]
    exact Iff.rfl
  refine Good.of ok.n1 ok.n2 ?_ hb ((key bs).mpr (e ▸ (key as).mp ok.bef)) fun i h0 h1 => ?_
  · have := congrArg List.length e
    rw [List.length_map, List.length_map] at this
    rw [this]; exact ok.l2
  · obtain ⟨a, ha, ea⟩ := ok.all i h0 h1
    have : (a.1, a.2.1) ∈ bs.map fun a => (a.1, a.2.1) := by rw [e]; exact List.mem_map.mpr ⟨a, ha, rfl⟩
    obtain ⟨b, hb', eb⟩ := List.mem_map.mp this
    rw [Prod.mk.injEq] at eb
    exact ⟨b, hb', eb.1.trans ea⟩
/-- one row changed: pay and goal -/
theorem Good.put {n : Int} {as : List Arw} (ok : Good n as) {i : Nat} (hi : i < as.length) {b : Arw} (e1 : b.1 = as[i].1) (e2 : b.2.1 = as[i].2.1) (hb : ArwOk n b) : Good n (as.take i ++ [b] ++ as.drop (i + 1)) := by
  refine ok.like ?_ fun c hc => ?_
  · have e : as.map (fun a => (a.1, a.2.1)) = (as.take i).map (fun a => (a.1, a.2.1)) ++ (as[i].1, as[i].2.1) :: (as.drop (i + 1)).map fun a => (a.1, a.2.1) := by
      conv => lhs; rw [← List.take_append_drop i as, ← List.getElem_cons_drop hi, List.map_append, List.map_cons]
    rw [e]
    simp [e1, e2]
  · rw [List.append_assoc, List.mem_append, List.mem_append, List.mem_singleton] at hc
    rcases hc with h | rfl | h
    · exact ok.ok c (List.mem_of_mem_take h)
    · exact hb
    · exact ok.ok c (List.mem_of_mem_drop h)
theorem div_less {p q : Int} (h0 : 0 < p) (h : p ≤ q) : (2520 : Int) / q ≤ 2520 / p := by
  refine Int.le_ediv_of_mul_le h0 ?_
  refine Int.le_trans (Int.mul_le_mul_of_nonneg_left h (Int.ediv_nonneg (by decide) (by omega))) ?_
  exact Int.ediv_mul_le 2520 (by omega)
/-- a greater pay weighs less -/
theorem wgt_less {a : Arw} {y : Int} (h : max a.2.2.1 1 ≤ max y 1) (p : Int) (xs : List Int) : wgt p xs (a.1, a.2.1, y, a.2.2.2) ≤ wgt p xs a := by
  unfold wgt
  dsimp only
  split
  · exact div_less (by omega) h
  · exact Int.le_refl _
end Vl
end
section
set_option maxRecDepth 100000
namespace Vl
open PySem L2
end Vl
end
section
set_option maxRecDepth 100000
namespace Vl
open PySem L2
end Vl
end
section
set_option maxRecDepth 100000
namespace Vl
open PySem L2
theorem ArwOk.ok {n : Int} {a : Arw} (h : ArwOk n a) : PyData.strOk a.2.1 = true := by
  obtain ⟨c, e, _, c2⟩ := h.l
  rw [e]
  exact ok_letter c2
end Vl
end
section
set_option maxRecDepth 100000
namespace Vl
open PySem L2
end Vl
end
section
set_option maxRecDepth 100000
namespace Vl
open PySem L2
/-- a row whose pay has been raised -/
structure UpR (a b : Arw) : Prop where
  s : b.1 = a.1
  l : b.2.1 = a.2.1
  t : b.2.2.2 = a.2.2.2
  le : a.2.2.1 ≤ b.2.2.1
  p1 : b.2.2.1 ≤ 9
  low : a.2.2.1 ≤ 1 → b.2.2.1 = a.2.2.1
inductive UpL : List Arw → List Arw → Prop
  | nil : UpL [] []
  | cons {a b : Arw} {as bs : List Arw} : UpR a b → UpL as bs → UpL (a :: as) (b :: bs)
theorem UpL.len {as bs : List Arw} (h : UpL as bs) : bs.length = as.length := by
  induction h with
  | nil => rfl
  | cons _ _ ih => simp [ih]
theorem UpL.to {as bs : List Arw} (h : UpL as bs) {a : Arw} (ha : a ∈ as) : ∃ b ∈ bs, UpR a b := by
  induction h with
  | nil => cases ha
  | cons r _ ih =>
    rcases List.mem_cons.mp ha with rfl | ha
    · exact ⟨_, by simp, r⟩
    · obtain ⟨b, hb, r⟩ := ih ha
      exact ⟨b, by simp [hb], r⟩
theorem UpL.from {as bs : List Arw} (h : UpL as bs) {b : Arw} (hb : b ∈ bs) : ∃ a ∈ as, UpR a b := by
  induction h with
  | nil => cases hb
  | cons r _ ih =>
    rcases List.mem_cons.mp hb with rfl | hb
    · exact ⟨_, by simp, r⟩
    · obtain ⟨a, ha, r⟩ := ih hb
      exact ⟨a, by simp [ha], r⟩
theorem UpL.bef {as bs : List Arw} (h : UpL as bs) (hp : as.Pairwise Bef) : bs.Pairwise Bef := by
  induction h with
  | nil => exact .nil
  | cons r u ih =>
    rw [List.pairwise_cons] at hp ⊢
    refine ⟨fun c hc => ?_, ih hp.2⟩
    obtain ⟨d, hd, r2⟩ := u.from hc
    have := hp.1 d hd
    unfold Bef at this ⊢
    rw [r.s, r.l, r2.s, r2.l]
    exact this
theorem UpL.good {n : Int} {as bs : List Arw} (h : UpL as bs) (ok : Good n as) : Good n bs := by
  refine Good.of ok.n1 ok.n2 (by rw [h.len]; exact ok.l2) (fun b hb => ?_) (h.bef ok.bef) fun i i0 i1 => ?_
  · obtain ⟨a, ha, r⟩ := h.from hb
    have o := ok.ok a ha
    exact ⟨by rw [r.s]; exact o.s0, by rw [r.s]; exact o.s1, by rw [r.l]; exact o.l, by have := o.p0; have := r.le; omega, r.p1, by rw [r.t]; exact o.t0, by rw [r.t]; exact o.t1⟩
  · obtain ⟨a, ha, e⟩ := ok.all i i0 i1
    obtain ⟨b, hb, r⟩ := h.to ha
    exact ⟨b, hb, by rw [r.s]; exact e⟩
end Vl
end
section
set_option maxRecDepth 100000
namespace Vl
open PySem L2
def cd_steps_to : WS :=
  sSeq (sSet 2 (wLc [3] (iRng1 (aCons (wB bLen (aCons (wVar 0) (aNil))) (aNil))) (gName 3) (tYes) (wLst (aNil))))
  (sSeq (sFor (iRng1 (aCons (wB bLen (aCons (wVar 0) (aNil))) (aNil))) (gName 4) (sSeq (sFor (iVals' (wIx (wVar 0) (wVar 4))) (gTup (gCons (gName 3) (gCons (gName 5) (gNil)))) (sSeq (sAppIx 2 (wVar 5) (wFrz (wVar 4)))
  (sNil)))
  (sNil)))
  (sSeq (sSet 6 (wRep (wD .non) (wB bLen (aCons (wVar 0) (aNil)))))
  (sSeq (sSet 7 (wFrz (wB bList (aCons (wVar 1) (aNil)))))
  (sSeq (sSet 8 (wFrz (wD (.int 0))))
  (sSeq (sWhile (tTruO 7) (sSeq (sSet 9 (wLst (aNil)))
  (sSeq (sFor (iVal (wVar 7)) (gName 10) (sSeq (sIf (tVal (wCmp .Is (wIxO 6 (wVar 10)) (wD .non))) (sSeq (sPut 6 (wVar 10) (wFrz (wVar 8)))
  (sSeq (sExtIx 9 2 (wVar 10))
  (sNil))) (sNil))
  (sNil)))
  (sSeq (sSet 7 (wFrz (wVar 9)))
  (sSeq (sAug 8 .Add (wD (.int 1)))
  (sNil))))))
  (sSeq (sRet (wMov 6))
  (sNil)))))))
/-- a way to one of the places -/
inductive Rch (as : List Arw) (gs : List Int) : Int → Prop
  | here {p : Int} : p ∈ gs → Rch as gs p
  | step {a : Arw} : a ∈ as → Rch as gs a.2.2.2 → Rch as gs a.1
def bfF (L : List Arw) (p : Int) : List Int := (L.filter fun a => decide (a.2.2.2 = p)).map fun a => a.1
def bfT (n : Nat) (L : List Arw) : T := .lst ((rngI n).map fun p => T.lst (((bfF L p).map D.int).map T.v))
theorem bfF_len (L : List Arw) (p : Int) : (bfF L p).length ≤ L.length := by unfold bfF; rw [List.length_map]; exact List.length_filter_le _ _
theorem bfF_mem {L : List Arw} {p q : Int} : q ∈ bfF L p ↔ ∃ a ∈ L, a.2.2.2 = p ∧ a.1 = q := by
  unfold bfF
  rw [List.mem_map]
  constructor
  · rintro ⟨a, ha, e⟩
    obtain ⟨h1, h2⟩ := List.mem_filter.mp ha
    exact ⟨a, h1, by simpa using h2, e⟩
  · rintro ⟨a, ha, h1, h2⟩
    exact ⟨a, List.mem_filter.mpr ⟨ha, by simpa using h1⟩, h2⟩
theorem bfT_step {n : Nat} {L : List Arw} {a : Arw} (h0 : 0 ≤ a.2.2.2) (h1 : a.2.2.2 < n) : T.lst (((rngI n).map fun p => T.lst (((bfF L p).map D.int).map T.v)).set a.2.2.2.toNat (.lst (((bfF L a.2.2.2).map D.int).map T.v ++ [.v (.int a.1)]))) = bfT n (L ++ [a]) := by
  unfold bfT
  congr 1
  refine List.ext_getElem? fun i => ?_
  rw [List.getElem?_set, List.getElem?_map, List.getElem?_map, List.length_map, rngI_len]
  unfold rngI
  rw [List.getElem?_map]
  by_cases hi : i < n
  · rw [List.getElem?_range hi]
    simp only [Option.map_some]
    have hb : ∀ p, bfF (L ++ [a]) p = if a.2.2.2 = p then bfF L p ++ [a.1] else bfF L p := fun p => by
      unfold bfF
      rw [List.filter_append, List.map_append]
      by_cases e : a.2.2.2 = p
      · rw [if_pos e, List.filter_cons_of_pos (by simpa using e)]; rfl
      · rw [if_neg e, List.filter_cons_of_neg (by simpa using e)]; simp
    by_cases e : a.2.2.2.toNat = i
    · have e2 : a.2.2.2 = (i : Int) := by omega
      rw [if_pos e, if_pos (by omega), hb, if_pos e2, e2]
      simp
    · rw [if_neg e, hb, if_neg (by omega)]
  · rw [List.getElem?_eq_none (by simpa using hi)]
    rw [if_neg (by omega)]
    rfl
structure Bfs (n : Int) (as : List Arw) (gs : List Int) (ss : List (Option Int)) (wait : List Int) : Prop where
  len : ss.length = n.toNat
  snd : ∀ p : Int, 0 ≤ p → p < n → ss.getD p.toNat none ≠ none → Rch as gs p
  inw : ∀ q ∈ wait, (0 ≤ q ∧ q < n) ∧ Rch as gs q
  cls : ∀ a ∈ as, ss.getD a.2.2.2.toNat none ≠ none → ss.getD a.1.toNat none ≠ none ∨ a.1 ∈ wait
  gol : ∀ g ∈ gs, ss.getD g.toNat none ≠ none ∨ g ∈ wait
theorem Bfs.skip {n : Int} {as : List Arw} {gs : List Int} {ss : List (Option Int)} {w : List Int} {p : Int} (h : Bfs n as gs ss (p :: w)) (hp : ss.getD p.toNat none ≠ none) : Bfs n as gs ss w := by
  have f : ∀ {q : Int}, (ss.getD q.toNat none ≠ none ∨ q ∈ p :: w) → ss.getD q.toNat none ≠ none ∨ q ∈ w := fun {q} hq => by
    rcases hq with hq | hq
    · exact .inl hq
    · rcases List.mem_cons.mp hq with rfl | hq
      · exact .inl hp
      · exact .inr hq
  exact ⟨h.len, h.snd, fun q hq => h.inw q (List.mem_cons_of_mem _ hq), fun a ha h1 => f (h.cls a ha h1), fun g hg => f (h.gol g hg)⟩
theorem set_getD {ss : List (Option Int)} {i j : Nat} {c : Option Int} (hi : i < ss.length) : (ss.set i c).getD j none = if i = j then c else ss.getD j none := by
  rw [List.getD_eq_getElem?_getD, List.getElem?_set, List.getD_eq_getElem?_getD]
  by_cases e : i = j
  · rw [if_pos e, if_pos e, if_pos hi]; rfl
  · rw [if_neg e, if_neg e]
theorem Bfs.take {n : Int} {as L : List Arw} {gs : List Int} {ss : List (Option Int)} {w1 w2 : List Int} {p c : Int} (h : Bfs n as gs ss (p :: (w1 ++ w2))) (ok : Good n as) (hL : ∀ a, a ∈ L ↔ a ∈ as) : Bfs n as gs (ss.set p.toNat (some c)) (w1 ++ (w2 ++ bfF L p)) := by
  obtain ⟨⟨p0, p1⟩, pr⟩ := h.inw p (by simp)
  have hl : p.toNat < ss.length := by rw [h.len]; omega
  have up : ∀ {q : Int}, ss.getD q.toNat none ≠ none → (ss.set p.toNat (some c)).getD q.toNat none ≠ none := fun {q} hq => by
    rw [set_getD hl]
    split
    · simp
    · exact hq
  have f : ∀ {q : Int}, (ss.getD q.toNat none ≠ none ∨ q ∈ p :: (w1 ++ w2)) → (ss.set p.toNat (some c)).getD q.toNat none ≠ none ∨ q ∈ w1 ++ (w2 ++ bfF L p) := fun {q} hq => by
    rcases hq with hq | hq
    · exact .inl (up hq)
    · rcases List.mem_cons.mp hq with rfl | hq
      · exact .inl (by rw [set_getD hl, if_pos rfl]; simp)
      · refine .inr ?_
        rw [← List.append_assoc]
        exact List.mem_append_left _ hq
  refine ⟨by rw [List.length_set]; exact h.len, fun q q0 q1 hq => ?_, fun q hq => ?_, fun a ha h1 => ?_, fun g hg => f (h.gol g hg)⟩
  · rw [set_getD hl] at hq
    by_cases e : p.toNat = q.toNat
    · have : p = q := by omega
      rw [← this]; exact pr
    · rw [if_neg e] at hq
      exact h.snd q q0 q1 hq
  · rw [← List.append_assoc] at hq
    rcases List.mem_append.mp hq with hq | hq
    · exact h.inw q (List.mem_cons_of_mem _ hq)
    · obtain ⟨a, ha, e1, e2⟩ := bfF_mem.mp hq
      have ha' := (hL a).mp ha
      have h3 := ok.ok a ha'
      rw [← e2]
      exact ⟨⟨h3.s0, h3.s1⟩, .step ha' (by rw [e1]; exact pr)⟩
  · rw [set_getD hl] at h1
    have h3 := ok.ok a ha
    by_cases e : p.toNat = a.2.2.2.toNat
    · have ep : a.2.2.2 = p := by have := h3.t0; omega
      refine .inr ?_
      rw [← List.append_assoc]
      exact List.mem_append_right _ (bfF_mem.mpr ⟨a, (hL a).mpr ha, ep, rfl⟩)
    · rw [if_neg e] at h1
      exact f (h.cls a ha h1)
theorem Bfs.done {n : Int} {as : List Arw} {gs : List Int} {ss : List (Option Int)} (h : Bfs n as gs ss []) : ∀ p : Int, 0 ≤ p → p < n → (ss.getD p.toNat none = none ↔ ¬ Rch as gs p) := fun p p0 p1 => by
  have key : ∀ {q : Int}, Rch as gs q → ss.getD q.toNat none ≠ none := fun {q} hq => by
    induction hq with
    | here hg => exact (h.gol _ hg).resolve_right (by simp)
    | step ha _ ih => exact (h.cls _ ha ih).resolve_right (by simp)
  constructor
  · intro e hr; exact key hr e
  · intro hr
    by_cases e : ss.getD p.toNat none = none
    · exact e
    · exact absurd (h.snd p p0 p1 e) hr
def nnF (ss : List (Option Int)) : Nat := (ss.filter fun x => x.isNone).length
theorem nn_set : ∀ {ss : List (Option Int)} {i : Nat} {c : Int}, ss[i]? = some none → nnF (ss.set i (some c)) + 1 = nnF ss
  | [], _, _, h => by simp at h
  | x :: ss, 0, c, h => by
    simp at h
    subst h
    rfl
  | x :: ss, i + 1, c, h => by
    have := nn_set (ss := ss) (i := i) (c := c) (by simpa using h)
    unfold nnF at *
    rw [List.set_cons_succ]
    cases x with
    | none => rw [List.filter_cons_of_pos rfl, List.filter_cons_of_pos rfl, List.length_cons, List.length_cons]; omega
    | some y => rw [List.filter_cons_of_neg (by simp), List.filter_cons_of_neg (by simp)]; exact this
theorem nn_le (ss : List (Option Int)) : nnF ss ≤ ss.length := List.length_filter_le _ _
def sp_steps_to : Sp := fun ds Q _ => ∃ (n : Int) (as : List Arw) (gs : List Int), ds = [.lst (waysD n as), .tup (gs.map D.int)] ∧ Good n as ∧ gs.length ≤ 1000 ∧ (∀ g ∈ gs, 0 ≤ g ∧ g < n) ∧ ∀ ss : List (Option Int), ss.length = n.toNat → (∀ p : Int, 0 ≤ p → p < n → (ss.getD p.toNat none = none ↔ ¬ Rch as gs p)) → Q (.lst ((ss.map optD).map T.v))
theorem wp_steps_to (ds : List D) (Q : T → Prop) (Qx : Xn → Prop) (h : sp_steps_to ds Q Qx) : cd_steps_to ((ds.map fun d => some (T.v d)) ++ List.replicate (11 - ds.length) none) { nx := fun _ => Q (.v .non), rt := fun r _ => Q r, ex := fun x _ => Qx x } := by
  obtain ⟨n, as, gs, rfl, ok, gl, gb, q⟩ := h
  have n1 := ok.n1
  have n2 := ok.n2
  have l2 := ok.l2
  have wl : (waysD n as).length = n.toNat := by simp [waysD]
  change cd_steps_to [some (.v (.lst (waysD n as))), some (.v (.tup (gs.map D.int))), none, none, none, none, none, none, none, none, none] _
  unfold cd_steps_to
  ((try dsimp only); rw [sSeq_def]; simp only [sSet, wLc, iRng1, aCons, wB, wVar, slot, aNil, T.d_v, List.cons.injEq, and_true, rng_map, bLen_l, wl, D.int.injEq, exists_eq_left'])
  refine ⟨by omega, by omega, by omega, ?_⟩
  rw [show ((n.toNat : Nat) : Int).toNat = n.toNat from rfl]
  refine lcP_mapT (rngI n.toNat) D.int (fun _ => T.lst []) (by rw [rngI_len]; omega) (fun a ha P1 h1 => ?_) ?_
  · simp only [gName, wLst, aNil, lenk_0, List.map_nil, wipeR, List.set_cons_succ, List.set_cons_zero, true_and]
    exact h1 _ rfl
  rw [show T.lst ((rngI n.toNat).map fun _ => T.lst []) = bfT n.toNat [] from rfl]
  simp only [wipeR, List.set_cons_succ, List.set_cons_zero, restR_cons, slot, keepV_n, restR_nil]
  ((try dsimp only); rw [sSeq_def]; simp only [sFor, iRng1, aCons, wB, wVar, slot, aNil, T.d_v, List.cons.injEq, and_true, rng_map, bLen_l, wl, D.int.injEq, exists_eq_left'])
  refine ⟨by omega, by omega, by omega, ?_⟩
  rw [show ((n.toNat : Nat) : Int).toNat = n.toNat from rfl]
  refine forP_map (rngI n.toNat) D.int (fun pre ρ => ∃ (L : List Arw) (x3 x4 x5 : Option T), ρ = [some (.v (.lst (waysD n as))), some (.v (.tup (gs.map D.int))), some (bfT n.toNat L), x3, x4, x5, none, none, none, none, none] ∧ L.length ≤ 60 * pre.length ∧ ∀ a, a ∈ L ↔ a ∈ as ∧ a.1 < pre.length) ⟨[], _, _, _, rfl, by simp, fun a => ?_⟩ ?_ ?_
  · constructor
    · intro h; cases h
    · rintro ⟨h1, h2⟩
      have := (ok.ok a h1).s0
      simp at h2
      omega
  · rintro pre p post ρ e0 ⟨L, x3, x4, x5, rfl, hL, hm⟩
    obtain ⟨ep, hp⟩ := rngI_split e0
    simp only [gName, List.set_cons_succ, List.set_cons_zero]
    ((try dsimp only); rw [sSeq_def]; simp only [sFor, iVals', wIx, wVar, slot, T.d_v, sNil, ixW_l])
    refine ⟨_, way_at (by omega) (by omega), ?_⟩
    simp only [way_vals]
    refine forP_map (stepsOf as p) (fun a => D.tup [.int a.2.2.1, .int a.2.2.2]) (fun pre3 ρ => ∃ (x3 x5 : Option T), ρ = [some (.v (.lst (waysD n as))), some (.v (.tup (gs.map D.int))), some (bfT n.toNat (L ++ pre3)), x3, some (.v (.int p)), x5, none, none, none, none, none]) ⟨_, _, by rw [List.append_nil]⟩ ?_ ?_
    · rintro pre3 a post3 ρ e3 ⟨x3, x5, rfl⟩
      have ha : a ∈ stepsOf as p := by rw [e3]; simp
      have h3 := ok.ok a (steps_sub ha).1
      have h4 := h3.t0
      have h5 := h3.t1
      have h6 := (steps_sub ha).2
      have hpl : pre3.length < as.length := by
        have := congrArg List.length e3
        have := steps_len as p
        simp at *
        omega
      have hbl := bfF_len (L ++ pre3) a.2.2.2
      have hbs := bfT_step (n := n.toNat) (L := L ++ pre3) (a := a) h4 (by omega)
      rw [List.append_assoc, h6] at hbs
      simp only [gTup_t, gCons_c, gName, List.set_cons_succ, List.set_cons_zero, gNil_n]
      unfold bfT
      ((try dsimp only); rw [sSeq_def]; simp only [sAppIx, onL, slot, List.set_cons_succ, List.set_cons_zero, ex_app2, wVar, T.v.injEq, D.int.injEq, onLL, wFrz, sNil, T.d_v, List.cons.injEq, Option.some.injEq, and_true, true_and, forall_const, exists_eq_left'])
      have hg : (rngI n.toNat)[a.2.2.2.toNat]? = some a.2.2.2 := by
        unfold rngI
        rw [List.getElem?_map, List.getElem?_range (by omega)]
        simp
        omega
      refine ⟨a.2.2.2.toNat, ((bfF (L ++ pre3) a.2.2.2).map D.int).map T.v, ?_, ?_, ?_, _, _, ?_, rfl, rfl⟩
      · unfold ixN
        rw [if_pos h4, if_pos (by rw [List.length_map, rngI_len]; omega)]
      · rw [List.getElem?_map, hg]; rfl
      · have : (L ++ pre3).length ≤ 60 * pre.length + as.length := by simp; omega
        simp at *
        omega
      · exact hbs
    · rintro ρ ⟨x3, x5, rfl⟩
      refine ⟨L ++ stepsOf as p, _, _, _, rfl, ?_, fun a => ?_⟩
      · have := steps_len as p
        simp
        omega
      · rw [List.mem_append, hm]
        unfold stepsOf
        rw [List.mem_filter]
        simp
        constructor
        · rintro (⟨h1, h2⟩ | ⟨h1, h2⟩)
          · exact ⟨h1, by omega⟩
          · exact ⟨h1, by omega⟩
        · rintro ⟨h1, h2⟩
          by_cases e : a.1 = p
          · exact .inr ⟨h1, e⟩
          · exact .inl ⟨h1, by omega⟩
  · rintro ρ ⟨L, x3, x4, x5, rfl, hL, hm⟩
    rw [rngI_len] at hL hm
    have hm2 : ∀ a, a ∈ L ↔ a ∈ as := fun a => by
      rw [hm]
      exact ⟨fun h => h.1, fun h => ⟨h, by have := (ok.ok a h).s1; omega⟩⟩
    clear hm
    ((try dsimp only); rw [sSeq_def]; simp only [sSet, wRep, wD, wB, aCons, wVar, slot, aNil, T.d_v, List.set_cons_succ, List.set_cons_zero, bLen_l, wl, T.v.injEq, D.int.injEq, exists_eq_left'])
    refine ⟨by omega, by omega, by omega, ?_⟩
    ((try dsimp only); rw [sSeq_def]; simp only [sSet, wFrz, wB, aCons, wVar, slot, aNil, T.d_v, List.set_cons_succ, List.set_cons_zero, bList_t, lst_vd])
    ((try dsimp only); rw [sSeq_def]; simp only [sSet, wFrz, wD, T.d_v, List.set_cons_succ, List.set_cons_zero])
    ((try dsimp only); rw [sSeq_def]; simp only [])
    rw [show ((n.toNat : Nat) : Int).toNat = n.toNat from rfl]
    have b0 : Bfs n as gs (List.replicate n.toNat none) gs := by
      have z : ∀ i : Nat, (List.replicate n.toNat (none : Option Int)).getD i none = none := fun i => by
        rw [List.getD_eq_getElem?_getD, List.getElem?_replicate]
        split <;> rfl
      exact ⟨by simp, fun p _ _ h => absurd (z _) h, fun q hq => ⟨gb q hq, .here hq⟩, fun a _ h => absurd (z _) h, fun g hg => .inr hg⟩
    rw [show List.replicate n.toNat D.non = (List.replicate n.toNat (none : Option Int)).map optD by rw [List.map_replicate]; rfl]
    refine ⟨fun m ρ => ∃ (ss : List (Option Int)) (lv : List Int) (c : Int) (x3 x4 x5 x9 x10 : Option T), ρ = [some (.v (.lst (waysD n as))), some (.v (.tup (gs.map D.int))), some (bfT n.toNat L), x3, x4, x5, some (.lst ((ss.map optD).map T.v)), some (.v (.lst (lv.map D.int))), some (.v (.int c)), x9, x10] ∧ Bfs n as gs ss lv ∧ lv.length ≤ 10000 ∧ m = 2 * nnF ss + (if lv = [] then 0 else 1), _, ⟨_, gs, 0, _, _, _, _, _, rfl, b0, by omega, rfl⟩, ?_⟩
    rintro m ρ' ⟨ss, lv, c, x3, x4, x5, x9, x10, rfl, hb, hlv, rfl⟩
    simp only [tTruO, slot]
    refine ⟨fun e => ?_, fun e => ?_⟩
    · have hne : lv ≠ [] := by rintro rfl; simp at e
      have hn12 := nn_le ss
      have hsl := hb.len
      ((try dsimp only); rw [sSeq_def]; simp only [sSet, wLst, aNil, lenk_0, List.map_nil, List.set_cons_succ, List.set_cons_zero, true_and])
      ((try dsimp only); rw [sSeq_def]; simp only [sFor, iVal, wVar, slot, T.d_v, walkW_l])
      refine forP_map lv D.int (fun pre ρ => ∃ (ss' : List (Option Int)) (bh : List Int) (x10 : Option T), ρ = [some (.v (.lst (waysD n as))), some (.v (.tup (gs.map D.int))), some (bfT n.toNat L), x3, x4, x5, some (.lst ((ss'.map optD).map T.v)), some (.v (.lst (lv.map D.int))), some (.v (.int c)), some (.lst ((bh.map D.int).map T.v)), x10] ∧ Bfs n as gs ss' (lv.drop pre.length ++ bh) ∧ bh.length + 720 * nnF ss' ≤ 8640 ∧ nnF ss' ≤ nnF ss ∧ (bh ≠ [] → nnF ss' < nnF ss)) ⟨ss, [], _, rfl, by simpa using hb, by simp; omega, Nat.le_refl _, fun h => absurd rfl h⟩ ?_ ?_
      · rintro pre p post ρ e0 ⟨ss', bh, x10, rfl, hb', h1, h2, h3⟩
        have d1 : lv.drop pre.length = p :: post := by rw [e0, List.drop_left]
        have d2 : lv.drop (pre ++ [p]).length = post := by rw [e0, show pre ++ p :: post = (pre ++ [p]) ++ post by simp, List.drop_left]
        rw [d1, List.cons_append] at hb'
        obtain ⟨⟨p0, p1⟩, _⟩ := hb'.inw p (by simp)
        have hl' := hb'.len
        obtain ⟨o, ho⟩ : ∃ o, ss'[p.toNat]? = some o := ⟨_, List.getElem?_eq_getElem (by omega)⟩
        have hgd : ss'.getD p.toNat none = o := by rw [List.getD_eq_getElem?_getD, ho]; rfl
        have hat : atI ((ss'.map optD).map T.v) p = some (.v (optD o)) := by
          have := at_nat (xs := (ss'.map optD).map T.v) (x := T.v (optD o)) (by rw [List.getElem?_map, List.getElem?_map, ho]; rfl)
          rwa [show ((p.toNat : Nat) : Int) = p by omega] at this
        rw [d2]
        simp only [gName, List.set_cons_succ, List.set_cons_zero]
        ((try dsimp only); rw [sSeq_def]; simp only [sIf, tVal, wCmp, wIxO, slot, Option.some.injEq, exists_eq', wVar, T.v.injEq, D.int.injEq, wD, T.d_v, D.bl.injEq, sNil, List.cons.injEq, and_true, true_and, exists_eq_left', cmpW_is, isW_n])
        refine ⟨_, hat, fun e => ?_, fun e => ?_⟩
        · have eo : o = none := by cases o with
            | none => rfl
            | some _ => cases e
          subst eo
          have hns := nn_set (c := c) ho
          have hix : ixN ((ss'.map optD).map T.v).length p = some p.toNat := by
            unfold ixN
            rw [if_pos p0, if_pos (by rw [List.length_map, List.length_map]; omega)]
          have hbl := bfF_len L p
          have hbt := hb'.take (L := L) (c := c) ok hm2
          ((try dsimp only); rw [sSeq_def]; simp only [sPut, onL, slot, List.set_cons_succ, List.set_cons_zero, ex_app2, wFrz, wVar, T.v.injEq, D.int.injEq, T.d_v, exists_eq_left', true_and])
          refine ⟨_, hix, ?_⟩
          rw [show ((ss'.map optD).map T.v).set p.toNat (.v (.int c)) = ((ss'.set p.toNat (some c)).map optD).map T.v by rw [List.map_set, List.map_set]; rfl]
          unfold bfT
          ((try dsimp only); rw [sSeq_def]; simp only [sExtIx, onL, slot, List.set_cons_succ, List.set_cons_zero, ex_app2, wVar, T.v.injEq, D.int.injEq, sNil, List.cons.injEq, Option.some.injEq, and_true, true_and, exists_eq_left'])
          have hg : (rngI n.toNat)[p.toNat]? = some p := by
            unfold rngI
            rw [List.getElem?_map, List.getElem?_range (by omega)]
            simp
            omega
          refine ⟨p.toNat, (bfF L p).map D.int, ?_, ?_, ?_, ss'.set p.toNat (some c), bh ++ bfF L p, _, ⟨rfl, ?_, rfl⟩, hbt, ?_, by omega, fun _ => by omega⟩
          · unfold ixN
            rw [if_pos p0, if_pos (by rw [List.length_map, rngI_len]; omega)]
          · rw [List.getElem?_map, hg]; rfl
          · simp; omega
          · simp
          · simp; omega
        · have so : o ≠ none := by rintro rfl; cases e
          exact ⟨ss', bh, _, ⟨rfl, rfl, rfl⟩, hb'.skip (by rw [hgd]; exact so), h1, h2, h3⟩
      · rintro ρ ⟨ss', bh, x10, rfl, hb', h1, h2, h3⟩
        rw [List.drop_length, List.nil_append] at hb'
        ((try dsimp only); rw [sSeq_def]; simp only [sSet, wFrz, wVar, slot, lst_vd, List.set_cons_succ, List.set_cons_zero, T.d_v])
        ((try dsimp only); rw [sSeq_def]; simp only [sAug, slot, Option.some.injEq, T.v.injEq, wD, T.d_v, sNil, List.set_cons_succ, List.set_cons_zero, List.cons.injEq, and_true, true_and, exists_eq_left', ipW_a, D.int.injEq])
        have hlt : 2 * nnF ss' + (if bh = [] then 0 else 1) < 2 * nnF ss + (if lv = [] then 0 else 1) := by
          rw [if_neg hne]
          by_cases hbe : bh = []
          · rw [if_pos hbe]; omega
          · rw [if_neg hbe]; have := h3 hbe; omega
        exact ⟨_, hlt, ss', bh, _, _, _, _, _, _, ⟨rfl, rfl, rfl, rfl, rfl, rfl, rfl, rfl⟩, hb', by omega, rfl⟩
    · have : lv = [] := by cases lv with
        | nil => rfl
        | cons _ _ => simp at e
      subst this
      ((try dsimp only); (try simp only [List.map_nil]); rw [sSeq_def]; simp only [sRet, wMov, slot])
      exact q ss hb.len hb.done
theorem ln_steps_to : ∀ ds Q Qx, sp_steps_to ds Q Qx → ds.length = 2 := by rintro ds Q Qx ⟨n, as, gs, rfl, _⟩; rfl
end Vl
end
section
set_option maxRecDepth 100000
namespace Vl
open PySem L2
def cd_short_places : WS :=
  sSeq (sRet (wLc [2] (iVal (wVar 1)) (gName 2) (tVal (wCmp .Lt (wCallS (sp_inside) (aCons (wIx (wVar 0) (wVar 2)) (aCons (wVar 1) (aNil)))) (wD (.int 2520)))) (wVar 2)))
  (sNil)
def sp_short_places : Sp := fun ds Q _ => ∃ (n : Int) (as : List Arw) (xs : List Int), ds = [.lst (waysD n as), .dic (dicL xs)] ∧ Good n as ∧ xs.length ≤ 100000 ∧ (∀ x ∈ xs, 0 ≤ x ∧ x < n) ∧ Q (.lst (((shortL as xs).map D.int).map T.v))
theorem wp_short_places (ds : List D) (Q : T → Prop) (Qx : Xn → Prop) (h : sp_short_places ds Q Qx) : cd_short_places ((ds.map fun d => some (T.v d)) ++ List.replicate (3 - ds.length) none) { nx := fun _ => Q (.v .non), rt := fun r _ => Q r, ex := fun x _ => Qx x } := by
  obtain ⟨n, as, xs, rfl, ok, hl, hx, q⟩ := h
  change cd_short_places [some (.v (.lst (waysD n as))), some (.v (.dic (dicL xs))), none] _
  unfold cd_short_places
  ((try dsimp only); rw [sSeq_def]; simp only [sRet, wLc, iVal, wVar, slot, T.d_v, walkW_d, dicL_walk])
  refine lcP_fm xs _ (fun p => decide (inS as p xs < 2520)) (fun p => .int p) hl (fun a ha P1 P0 h1 h0 => ?_) ?_
  · simp only [gName, tVal, wCmp, wCallS, aCons, wIx, wVar, wipeR, List.set_cons_succ, List.set_cons_zero, slot, T.d_v, aNil, wD, T.v.injEq, D.bl.injEq, exists_eq_left', cmpW_lt, ixW_l]
    obtain ⟨a0, a1⟩ := hx a ha
    refine ⟨_, way_at a0 a1, n, as, a, xs, rfl, ok, fun e => h1 _ rfl e, fun e => h0 _ rfl e⟩
  · exact q
theorem ln_short_places : ∀ ds Q Qx, sp_short_places ds Q Qx → ds.length = 2 := by rintro ds Q Qx ⟨n, as, xs, rfl, _⟩; rfl
end Vl
end
section
set_option maxRecDepth 100000
namespace Vl
open PySem L2
def cd_ranks (C : Addr) : WS :=
  sSeq (sSet 1 (wFrz (wCall (R_ways_of C) (aCons (wVar 0) (aNil)))))
  (sSeq (sSet 2 (wRep (wD .non) (wFld C "places" (wVar 0))))
  (sSeq (sSet 3 (wDc [4] (iRng1 (aCons (wFld C "places" (wVar 0)) (aNil))) (gName 4) (tYes) (wVar 4) (wD (.bl true))))
  (sSeq (sSet 5 (wFrz (wD (.int 1))))
  (sSeq (sSet 6 (wFrz (wCallL (sp_short_places) true 3 (alCons (wVar 1) (alLend (alNil))))))
  (sSeq (sWhile (tTruO 6) (sSeq (sFor (iVal (wVar 6)) (gName 4) (sSeq (sPut 2 (wVar 4) (wFrz (wVar 5)))
  (sSeq (sDelD 3 (wVar 4))
  (sNil))))
  (sSeq (sAug 5 .Add (wD (.int 1)))
  (sSeq (sSet 6 (wFrz (wCallL (sp_short_places) true 3 (alCons (wVar 1) (alLend (alNil))))))
  (sNil)))))
  (sSeq (sRet (wTuple (wVar 2)))
  (sNil)))))))
def sp_ranks (C : Addr) : Sp := fun ds Q _ => ∃ (n : Int) (as : List Arw), ds = [trD C n as] ∧ Good n as ∧ Q (.v (.tup (rankD n as)))
theorem wp_ranks (C : Addr) (ds : List D) (Q : T → Prop) (Qx : Xn → Prop) (h : sp_ranks C ds Q Qx) : cd_ranks C ((ds.map fun d => some (T.v d)) ++ List.replicate (7 - ds.length) none) { nx := fun _ => Q (.v .non), rt := fun r _ => Q r, ex := fun x _ => Qx x } := by
  obtain ⟨n, as, rfl, ok, q⟩ := h
  change cd_ranks C [some (.v (trD C n as)), none, none, none, none, none, none] _
  unfold cd_ranks
  have n1 := ok.n1
  have n2 := ok.n2
  ((try dsimp only); rw [sSeq_def]; simp only [sSet, wFrz, wCall, aCons, wVar, slot, aNil, T.d_v, List.map_cons, List.map_nil, List.set_cons_succ, List.set_cons_zero])
  refine ⟨n, as, rfl, ok, ?_⟩
  ((try dsimp only); (try simp only [waysT_d]); rw [sSeq_def]; simp only [sSet, wRep, wD, T.d_v, wFld_def, wVar, slot, T.v.injEq, List.set_cons_succ, List.set_cons_zero, fldW_p, D.int.injEq, exists_eq_left'])
  refine ⟨by omega, by omega, ?_⟩
  ((try dsimp only); rw [sSeq_def]; simp only [sSet, wDc, iRng1, aCons, aNil, List.cons.injEq, and_true, rng_map, wFld_def, wVar, slot, T.d_v, fldW_p, D.int.injEq, exists_eq_left'])
  refine ⟨by omega, by omega, dcP_map (rngI n.toNat) _ (fun i => .inl i) (fun _ => .bl true) (by rw [rngI_len]; omega) ?_ (fun a ha P h => ?_) ?_⟩
  · have := dicL_nodup (rngI_nodup (n := n.toNat))
    rwa [dicL_keys] at this
  · simp only [gName, wVar, wipeR, List.set_cons_succ, List.set_cons_zero, slot, T.v.injEq, wD]
    exact ⟨_, rfl, h _ rfl⟩
  change (sSeq _ _) [_, _, _, some (.dic (vK (dicL (rngI n.toNat)))), _, _, _] _
  ((try dsimp only); rw [sSeq_def]; simp only [sSet, wFrz, wD, T.d_v, List.set_cons_succ, List.set_cons_zero])
  rw [leftF0 (as := as), found0 (as := as)]
  have shortOk : ∀ f, (leftF n f).length ≤ 100000 ∧ ∀ x ∈ leftF n f, 0 ≤ x ∧ x < n := fun f => ⟨Nat.le_trans leftF_len (by omega), fun x hx => (leftF_mem.mp hx).1⟩
  ((try dsimp only); rw [sSeq_def]; simp only [sSet, wFrz, wCallL, slot, Option.some.injEq, exists_eq_left', lendO_d, alCons, wVar, alLend, alNil, T.d_v, List.map_cons, Option.getD_some, Option.getD_none, List.map_nil, List.set_cons_succ, List.set_cons_zero, dic_vd, true_and])
  refine ⟨n, as, leftF n (turnF n as 0), rfl, ok, (shortOk _).1, (shortOk _).2, Tno_l noL_int, ?_⟩
  ((try dsimp only); (try simp only [lst_vd]); rw [sSeq_def]; simp only [])
  refine ⟨fun m ρ => ∃ (t : Nat) (x4 : Option T), ρ = [some (T.v (trD C n as)), some (T.v (D.lst (waysD n as))), some (foundT n (turnF n as t)), some (T.dic (vK (dicL (leftF n (turnF n as t))))), x4, some (T.v (D.int ((t : Int) + 1))), some (T.v (D.lst (List.map D.int (shortL as (leftF n (turnF n as t))))))] ∧ m = (leftF n (turnF n as t)).length ∧ ∀ s, s < t → shortL as (leftF n (turnF n as s)) ≠ [], _, ⟨0, none, rfl, rfl, fun s hs => by omega⟩, ?_⟩
  rintro m ρ ⟨t, x4, rfl, rfl, hpre⟩
  simp only [tTruO, slot]
  refine ⟨fun e => ?_, fun e => ?_⟩
  · have hne : shortL as (leftF n (turnF n as t)) ≠ [] := by rintro z; rw [z] at e; simp at e
    ((try dsimp only); rw [sSeq_def]; simp only [sFor, iVal, wVar, slot, T.d_v, walkW_l])
    refine forP_map (shortL as (leftF n (turnF n as t))) D.int (fun pre ρ => ∃ x4, ρ = [some (T.v (trD C n as)), some (T.v (D.lst (waysD n as))), some (foundT n fun p => if p ∈ pre then some ((t : Int) + 1) else turnF n as t p), some (T.dic (vK (dicL ((leftF n (turnF n as t)).filter fun p => decide (p ∉ pre))))), x4, some (T.v (D.int ((t : Int) + 1))), some (T.v (D.lst (List.map D.int (shortL as (leftF n (turnF n as t))))))]) ⟨x4, ?_⟩ ?_ ?_
    · have : ((leftF n (turnF n as t)).filter fun p => decide (p ∉ ([] : List Int))) = leftF n (turnF n as t) := List.filter_eq_self.mpr fun _ _ => by simp
      rw [this]
      simp
    · rintro pre p post ρ e0 ⟨x4, rfl⟩
      have pm : p ∈ shortL as (leftF n (turnF n as t)) := by rw [e0]; simp
      have pl := (shortL_mem.mp pm).1
      have hp : 0 ≤ p ∧ p < n := (leftF_mem.mp pl).1
      have nd : (shortL as (leftF n (turnF n as t))).Nodup := List.Pairwise.filter _ leftF_nodup
      have pn : p ∉ pre := by
        rw [e0, List.nodup_append] at nd
        intro hm
        exact nd.2.2 p hm p (by simp) rfl
      simp only [gName, foundT, List.set_cons_succ, List.set_cons_zero]
      ((try dsimp only); rw [sSeq_def]; simp only [sPut, onL, slot, List.set_cons_succ, List.set_cons_zero, ex_app2, wFrz, wVar, T.v.injEq, D.int.injEq, List.length_map, rngI_len, T.d_v, exists_eq_left', true_and])
      refine ⟨_, ixN_int hp.1 (by omega), ?_⟩
      rw [found_set (f := fun p => if p ∈ pre then some ((t : Int) + 1) else turnF n as t p) hp.1 hp.2]
      ((try dsimp only); rw [sSeq_def]; simp only [sDelD, onD, slot, List.set_cons_succ, List.set_cons_zero, ex_app2, wVar, T.v.injEq, sNil, List.cons.injEq, Option.some.injEq, and_true, true_and])
      refine ⟨.inl p, rfl, ?_, ?_⟩
      · rw [kget_vK, Option.isSome_map, dicL_is]
        simp [pl, pn]
      · refine ⟨some (.v (.int p)), ?_⟩
        rw [kdrop_vK, dicL_drop, step_left, step_found]
        exact ⟨rfl, rfl, rfl⟩
    · rintro ρ ⟨x4, rfl⟩
      rw [turn_found, ← turn_left]
      ((try dsimp only); rw [sSeq_def]; simp only [sAug, slot, Option.some.injEq, T.v.injEq, wD, T.d_v, List.set_cons_succ, List.set_cons_zero, exists_eq_left', ipW_a])
      ((try dsimp only); rw [sSeq_def]; simp only [sSet, wFrz, wCallL, slot, Option.some.injEq, exists_eq_left', lendO_d, alCons, wVar, alLend, alNil, T.d_v, List.map_cons, Option.getD_some, Option.getD_none, List.map_nil, sNil, List.set_cons_succ, List.set_cons_zero, List.cons.injEq, T.v.injEq, D.int.injEq, and_true, true_and, dic_vd])
      refine ⟨n, as, leftF n (turnF n as (t + 1)), rfl, ok, (shortOk _).1, (shortOk _).2, Tno_l noL_int, ?_⟩
      refine ⟨_, turn_less hne, t + 1, x4, ⟨rfl, rfl, rfl, rfl, lst_vd _⟩, rfl, fun s hs => ?_⟩
      by_cases e : s = t
      · rw [e]; exact hne
      · exact hpre s (by omega)
  · have hend : shortL as (leftF n (turnF n as t)) = [] := by
      cases hs : shortL as (leftF n (turnF n as t)) with
      | nil => rfl
      | cons a b => rw [hs] at e; simp at e
    rw [turn_end hend hpre]
    ((try dsimp only); (try simp only [foundT]); rw [sSeq_def]; simp only [sRet, wTuple, wVar, slot, T.d_v])
    have hd := found_d (n := n) (f := rankF n as)
    unfold foundT at hd
    rw [hd]
    exact q
theorem ln_ranks (C : Addr) : ∀ ds Q Qx, sp_ranks C ds Q Qx → ds.length = 1 := by rintro ds Q Qx ⟨n, as, rfl, _⟩; rfl
end Vl
end
section
set_option maxRecDepth 100000
namespace Vl
open PySem L2
def cd_greatest_full (C : Addr) : WS :=
  sSeq (sSet 1 (wFrz (wCallS (sp_ranks C) (aCons (wVar 0) (aNil)))))
  (sSeq (sRet (wTuple (wLc [2] (iRng1 (aCons (wFld C "places" (wVar 0)) (aNil))) (gName 2) (tVal (wCmp .Is (wIx (wVar 1) (wVar 2)) (wD .non))) (wVar 2))))
  (sNil))
def sp_greatest_full (C : Addr) : Sp := fun ds Q _ => ∃ (n : Int) (as : List Arw), ds = [trD C n as] ∧ Good n as ∧ Q (.v (.tup ((leftF n (rankF n as)).map D.int)))
theorem optD_N (o : Option Int) : (optD o).isN = o.isNone := by cases o <;> rfl
theorem rank_at {n : Int} {as : List Arw} {p : Int} (h0 : 0 ≤ p) (h1 : p < n) : atI (rankD n as) p = some (optD (rankF n as p)) := rng_at (f := fun p => optD (rankF n as p)) h0 (by omega)
theorem wp_greatest_full (C : Addr) (ds : List D) (Q : T → Prop) (Qx : Xn → Prop) (h : sp_greatest_full C ds Q Qx) : cd_greatest_full C ((ds.map fun d => some (T.v d)) ++ List.replicate (3 - ds.length) none) { nx := fun _ => Q (.v .non), rt := fun r _ => Q r, ex := fun x _ => Qx x } := by
  obtain ⟨n, as, rfl, ok, q⟩ := h
  change cd_greatest_full C [some (.v (trD C n as)), none, none] _
  unfold cd_greatest_full
  have n1 := ok.n1
  have n2 := ok.n2
  ((try dsimp only); rw [sSeq_def]; simp only [sSet, wFrz, wCallS, aCons, wVar, slot, aNil, T.d_v, List.set_cons_succ, List.set_cons_zero])
  refine ⟨n, as, rfl, ok, ?_⟩
  ((try dsimp only); (try simp only [T.d_v]); rw [sSeq_def]; simp only [sRet, wTuple, wLc, iRng1, aCons, aNil, List.cons.injEq, and_true, rng_map, wFld_def, wVar, slot, T.d_v, fldW_p, D.int.injEq, exists_eq_left'])
  refine ⟨by omega, by omega, lcP_fm (rngI n.toNat) _ (fun p => (rankF n as p).isNone) (fun p => .int p) (by rw [rngI_len]; omega) (fun p hp P1 P0 h1 h0 => ?_) ?_⟩
  · obtain ⟨p0, p1⟩ := rngI_mem.mp hp
    simp only [gName, tVal, wCmp, wIx, wVar, wipeR, List.set_cons_succ, List.set_cons_zero, slot, T.d_v, wD, T.v.injEq, D.bl.injEq, exists_eq_left', cmpW_is, isW_n, ixW_t]
    refine ⟨_, rank_at p0 (by omega), ?_⟩
    rw [optD_N]
    exact ⟨fun e => h1 _ rfl e, fun e => h0 _ rfl e⟩
  · simp only [lst_vd]
    exact q
theorem ln_greatest_full (C : Addr) : ∀ ds Q Qx, sp_greatest_full C ds Q Qx → ds.length = 1 := by rintro ds Q Qx ⟨n, as, rfl, _⟩; rfl
end Vl
end
section
set_option maxRecDepth 100000
namespace Vl
open PySem L2
def cd_hopeful (C : Addr) : WS :=
  sSeq (sSet 1 (wFrz (wCallS (sp_steps_to) (aCons (wCall (R_ways_of C) (aCons (wVar 0) (aNil))) (aCons (wCallS (sp_greatest_full C) (aCons (wVar 0) (aNil))) (aNil))))))
  (sSeq (sRet (wTuple (wLc [2] (iRng1 (aCons (wFld C "places" (wVar 0)) (aNil))) (gName 2) (tVal (wCmp .Is (wIx (wVar 1) (wVar 2)) (wD .non))) (wVar 2))))
  (sNil))
def sp_hopeful (C : Addr) : Sp := fun ds Q _ => ∃ (n : Int) (as : List Arw), ds = [trD C n as] ∧ Good n as ∧ ∀ h : Int → Bool, (∀ p : Int, 0 ≤ p → p < n → (h p = true ↔ ¬ Rch as (leftF n (rankF n as)) p)) → Q (.v (.tup (((rngI n.toNat).filter h).map D.int)))
theorem wp_hopeful (C : Addr) (ds : List D) (Q : T → Prop) (Qx : Xn → Prop) (h : sp_hopeful C ds Q Qx) : cd_hopeful C ((ds.map fun d => some (T.v d)) ++ List.replicate (3 - ds.length) none) { nx := fun _ => Q (.v .non), rt := fun r _ => Q r, ex := fun x _ => Qx x } := by
  obtain ⟨n, as, rfl, ok, q⟩ := h
  have n1 := ok.n1
  have n2 := ok.n2
  change cd_hopeful C [some (.v (trD C n as)), none, none] _
  unfold cd_hopeful
  ((try dsimp only); rw [sSeq_def]; simp only [sSet, wFrz, wCallS, aCons, wCall, wVar, slot, aNil, T.d_v, List.map_cons, List.map_nil, List.set_cons_succ, List.set_cons_zero])
  refine ⟨n, as, rfl, ok, ?_⟩
  simp only [waysT_d]
  refine ⟨n, as, rfl, ok, ?_⟩
  simp only [T.d_v]
  refine ⟨n, as, _, rfl, ok, by have := @leftF_len n (rankF n as); omega, fun g hg => (leftF_mem.mp hg).1, fun ss hl hs => ?_⟩
  simp only [lst_vd]
  ((try dsimp only); rw [sSeq_def]; simp only [sRet, wTuple, wLc, iRng1, aCons, aNil, List.cons.injEq, and_true, rng_map, wFld_def, wVar, slot, T.d_v, fldW_p, D.int.injEq, exists_eq_left'])
  refine ⟨by omega, by omega, ?_⟩
  refine lcP_fm (rngI n.toNat) D.int (fun p => (ss.getD p.toNat none).isNone) (fun p => .int p) (by rw [rngI_len]; omega) (fun p hp P1 P0 h1 h0 => ?_) ?_
  · obtain ⟨p0, p1⟩ := rngI_mem.mp hp
    have hat : atI (ss.map optD) p = some (optD (ss.getD p.toNat none)) := by
      have := at_nat (xs := ss.map optD) (x := optD (ss.getD p.toNat none)) (by rw [List.getElem?_map, List.getD_eq_getElem?_getD, List.getElem?_eq_getElem (show p.toNat < ss.length by omega)]; rfl)
      rwa [show ((p.toNat : Nat) : Int) = p by omega] at this
    simp only [gName, tVal, wCmp, wIx, wVar, wipeR, List.set_cons_succ, List.set_cons_zero, slot, T.d_v, wD, T.v.injEq, D.bl.injEq, exists_eq_left', cmpW_is, isW_n, ixW_l]
    refine ⟨_, hat, ?_⟩
    rw [optD_N]
    exact ⟨fun e => h1 _ rfl e, fun e => h0 _ rfl e⟩
  · simp only [lst_vd]
    refine q (fun p => (ss.getD p.toNat none).isNone) fun p p0 p1 => ?_
    rw [← hs p p0 p1]
    cases ss.getD p.toNat none <;> simp
theorem ln_hopeful (C : Addr) : ∀ ds Q Qx, sp_hopeful C ds Q Qx → ds.length = 1 := by rintro ds Q Qx ⟨n, as, rfl, _⟩; rfl
end Vl
end
section
set_option maxRecDepth 100000
namespace Vl
open PySem L2
theorem Reach.head {as : List Arw} {a : Arw} {x : Int} (ha : a ∈ as) (h : Reach as a.2.2.2 x) : Reach as a.1 x := by
  induction h with
  | start => exact Reach.start.step ha rfl
  | step _ h1 h2 ih => exact ih.step h1 h2
theorem rch_iff {as : List Arw} {gs : List Int} {p : Int} : Rch as gs p ↔ ∃ x, Reach as p x ∧ x ∈ gs := by
  constructor
  · intro h
    induction h with
    | here h => exact ⟨_, .start, h⟩
    | step ha _ ih =>
      obtain ⟨x, h1, h2⟩ := ih
      exact ⟨x, h1.head ha, h2⟩
  · rintro ⟨x, h, hx⟩
    have : ∀ x, Reach as p x → Rch as gs x → Rch as gs p := fun x h => by
      induction h with
      | start => exact id
      | step _ ha e ih => exact fun z => ih (e ▸ Rch.step ha z)
    exact this x h (.here hx)
theorem Rch.mono {as bs : List Arw} {gs hs : List Int} {p : Int} (he : ∀ b ∈ bs, ∃ a ∈ as, a.1 = b.1 ∧ a.2.2.2 = b.2.2.2) (hg : ∀ x ∈ gs, x ∈ hs) (h : Rch bs gs p) : Rch as hs p := by
  induction h with
  | here h => exact .here (hg _ h)
  | step hb _ ih =>
    obtain ⟨a, ha, e1, e2⟩ := he _ hb
    rw [← e1]
    exact .step ha (by rw [e2]; exact ih)
theorem UpL.inS {as bs : List Arw} (h : UpL as bs) (p : Int) (xs : List Int) : inS bs p xs ≤ inS as p xs := by
  rw [inS_sum, inS_sum]
  induction h with
  | nil => exact Int.le_refl _
  | @cons a b as bs r _ ih =>
    rw [List.map_cons, List.map_cons, List.sum_cons, List.sum_cons]
    have e : b = (a.1, a.2.1, b.2.2.1, a.2.2.2) := by rw [← r.s, ← r.l, ← r.t]
    have : wgt p xs b ≤ wgt p xs a := by
      rw [e]
      exact wgt_less (by have := r.le; omega) p xs
    omega
end Vl
end
section
set_option maxRecDepth 100000
namespace Vl
open PySem L2
def cd_lhopeful47 : WS :=
  sSeq (sSet 1 (wFrz (wCallS (sp_lranks47) (aCons (wVar 0) (aNil)))))
  (sSeq (sRet (wLc [2] (iRng1 (aCons (wIx (wVar 0) (wD (.int 0))) (aNil))) (gName 2) (tVal (wCmp .NotIn (wD .non) (wLc [3] (iVal (wCallS (sp_lreached47) (aCons (wVar 0) (aCons (wVar 2) (aNil))))) (gName 3) (tYes) (wIx (wVar 1) (wVar 3))))) (wVar 2)))
  (sNil))
def sp_lhopeful47 : Sp := fun ds Q _ => ∃ (n : Int) (as : List Arw), ds = [toldD n as] ∧ Good n as ∧ ∀ h : Int → Bool, (∀ p : Int, 0 ≤ p → p < n → (h p = true ↔ ¬ Rch as (leftF n (rankF n as)) p)) → Q (.lst ((((rngI n.toNat).filter h).map D.int).map T.v))
theorem wp_lhopeful47 (ds : List D) (Q : T → Prop) (Qx : Xn → Prop) (h : sp_lhopeful47 ds Q Qx) : cd_lhopeful47 ((ds.map fun d => some (T.v d)) ++ List.replicate (4 - ds.length) none) { nx := fun _ => Q (.v .non), rt := fun r _ => Q r, ex := fun x _ => Qx x } := by
  obtain ⟨n, as, rfl, ok, q⟩ := h
  change cd_lhopeful47 [some (.v (toldD n as)), none, none, none] _
  unfold cd_lhopeful47
  have n1 := ok.n1
  have n2 := ok.n2
  ((try dsimp only); rw [sSeq_def]; simp only [sSet, wFrz, wCallS, aCons, wVar, slot, aNil, T.d_v, List.set_cons_succ, List.set_cons_zero])
  refine ⟨n, as, rfl, ok, ?_⟩
  dsimp only
  rw [found_d]
  have hat : ∀ x : Int, 0 ≤ x → x < n → atI ((rngI n.toNat).map fun p => optD (rankF n as p)) x = some (optD (rankF n as x)) := fun x x0 x1 => by
    have := at_nat (xs := (rngI n.toNat).map fun p => optD (rankF n as p)) (i := x.toNat) (x := optD (rankF n as x)) (by
      unfold rngI
      rw [List.getElem?_map, List.getElem?_map, List.getElem?_range (by omega)]
      show some (optD (rankF n as ((x.toNat : Nat) : Int))) = _
      rw [show ((x.toNat : Nat) : Int) = x by omega])
    rwa [show ((x.toNat : Nat) : Int) = x by omega] at this
  generalize hRD : (rngI n.toNat).map (fun p => optD (rankF n as p)) = RD at hat
  have htd : D.tup [.int n, asD as] = toldD n as := rfl
  ((try dsimp only); (try simp only [toldD]); rw [sSeq_def]; simp only [sRet, wLc, iRng1, aCons, wIx, wVar, slot, wD, T.d_v, aNil, List.cons.injEq, and_true, ixW_t, atI_0, Option.some.injEq, exists_eq_left', D.int.injEq])
  refine ⟨by omega, by omega, ?_⟩
  rw [rng_map]
  classical
  have hq := q (fun p => decide (¬ Rch as (leftF n (rankF n as)) p)) fun p p0 p1 => decide_eq_true_iff
  refine lcP_fm (rngI n.toNat) D.int (fun p => decide (¬ Rch as (leftF n (rankF n as)) p)) D.int (by rw [rngI_len]; omega) (fun p hp P1 P0 h1 h0 => ?_) ?_
  · obtain ⟨p0, p1⟩ := rngI_mem.mp hp
    simp only [gName, tVal, wCmp, wD, wLc, iVal, wCallS, aCons, wVar, wipeR, List.set_cons_succ, List.set_cons_zero, slot, aNil, T.d_v, T.v.injEq, D.bl.injEq, exists_eq_left', cmpW_nin]
    refine ⟨n, as, p, rfl, ok, p0, by omega, fun L nd l12 hL => ?_⟩
    have hr : ∀ x ∈ L, 0 ≤ x ∧ x < n := fun x hx => ((hL x).mp hx).range ok p0 (by omega)
    simp only [lst_vd, walkW_l]
    refine lcP_map L D.int (fun x => optD (rankF n as x)) (by omega) (fun x hx P1 h1 => ?_) ?_
    · simp only [gName, wIx, wVar, wipeR, List.set_cons_succ, List.set_cons_zero, slot, T.d_v, ixW_l]
      exact ⟨_, hat x (hr x hx).1 (hr x hx).2, h1 _ rfl⟩
    rw [lst_vd]
    simp only [wipeR, List.set_cons_succ, List.set_cons_zero, restR_cons, slot, keepV_n, restR_nil, inW_l, flat_n, true_and]
    have hfl : ((L.map fun x => optD (rankF n as x)).all D.flat) = true := by
      rw [List.all_map, List.all_eq_true]
      intro x _
      show (optD (rankF n as x)).flat = true
      cases rankF n as x <;> rfl
    have hany : ((L.map fun x => optD (rankF n as x)).any (deq .non)) = true ↔ Rch as (leftF n (rankF n as)) p := by
      rw [rch_iff, List.any_map, List.any_eq_true]
      constructor
      · rintro ⟨x, hx, e⟩
        refine ⟨x, (hL x).mp hx, leftF_mem.mpr ⟨hr x hx, ?_⟩⟩
        have e : D.non = optD (rankF n as x) := of_decide_eq_true (show deq .non (optD (rankF n as x)) = true from e)
        cases h : rankF n as x with
        | none => rfl
        | some r => rw [h] at e; cases e
      · rintro ⟨x, h1, h2⟩
        refine ⟨x, (hL x).mpr h1, ?_⟩
        show deq .non (optD (rankF n as x)) = true
        rw [(leftF_mem.mp h2).2]
        exact decide_eq_true rfl
    refine ⟨hfl, fun e => ?_, fun e => ?_⟩
    · refine h1 _ rfl (decide_eq_true fun z => ?_)
      rw [hany.mpr z] at e
      cases e
    · refine h0 _ rfl (decide_eq_false fun z => z (hany.mp ?_))
      simpa using e
  · exact hq
theorem ln_lhopeful47 : ∀ ds Q Qx, sp_lhopeful47 ds Q Qx → ds.length = 1 := by rintro ds Q Qx ⟨n, as, rfl, _⟩; rfl
end Vl
end
section
set_option maxRecDepth 100000
namespace Vl
open PySem L2
def cd_lany51 : WS :=
  sSeq (sRet (wIx (wVar 1) (wCallMS (sp_pdraw) 0 (aCons (wB bLen (aCons (wVar 1) (aNil))) (aNil)))))
  (sNil)
def sp_lany51 : SpM := fun u ds Q => ∃ (xs : List D), ds = [.tup xs] ∧ 0 < xs.length ∧ xs.length ≤ 1000 ∧ Pot u ∧ ∀ d u', d ∈ xs → Pot u' → Q (.v d) u'
theorem wp_lany51 (a : Addr) (u : T) (ds : List D) (Q : T → T → Prop) (h : sp_lany51 u ds Q) : cd_lany51 (some (.at_ a u) :: ((ds.map fun d => some (T.v d)) ++ List.replicate (2 - (ds.length + 1)) none)) { nx := fun ρ => ∃ u', slot ρ 0 = some (.at_ a u') ∧ Q (.v .non) u', rt := fun r ρ => ∃ u', slot ρ 0 = some (.at_ a u') ∧ Q r u' } := by
  obtain ⟨xs, rfl, h0, h1, hu, q⟩ := h
  change cd_lany51 [some (.at_ a u), some (.v (.tup xs))] _
  unfold cd_lany51
  obtain ⟨ts, rfl, hu⟩ := pot_L hu
  ((try dsimp only); rw [sSeq_def]; simp only [sRet, wIx, wVar, slot, wCallMS, onL, List.set_cons_zero, ex_app2, aCons, wB, aNil, T.d_v, Option.some.injEq, bLen_t, true_and])
  refine ⟨by omega, (xs.length : Int), rfl, by omega, by omega, hu, fun r u r0 r1 hu => ?_⟩
  obtain ⟨d, hd, ha⟩ : ∃ d, d ∈ xs ∧ atI xs r = some d := by
    have hr : r.toNat < xs.length := by omega
    refine ⟨xs[r.toNat], List.getElem_mem hr, ?_⟩
    have := at_nat (xs := xs) (i := r.toNat) (x := xs[r.toNat]) (List.getElem?_eq_getElem hr)
    rwa [show ((r.toNat : Nat) : Int) = r by omega] at this
  simp only [T.d_v, ixW_t]
  exact ⟨_, ha, _, rfl, q d u hd hu⟩
theorem ln_lany51 : ∀ u ds Q, sp_lany51 u ds Q → ds.length + 1 = 2 := by rintro u ds Q ⟨xs, rfl, _⟩; rfl
end Vl
end
section
set_option maxRecDepth 100000
namespace Vl
open PySem L2
def cd_ldeep51 : WS :=
  sSeq (sSet 1 (wFrz (wCallMS (sp_lany51) 0 (aCons (wTup (aCons (wTup (aNil)) (aCons (wD (.int 0)) (aCons (wD .non) (aCons (wD (.str "a")) (aNil)))))) (aNil)))))
  (sSeq (sFor (iRng1 (aCons (wD (.int 36)) (aNil))) (gName 2) (sSeq (sSet 1 (wFrz (wIf' (tVal (wCmp .Eq (wCallMS (sp_pdraw) 0 (aCons (wD (.int 2)) (aNil))) (wD (.int 0)))) (wTup (aCons (wVar 1) (aNil))) (wLst (aCons (wVar 1) (aNil))))))
  (sNil)))
  (sSeq (sRet (wVar 1))
  (sNil)))
/-- what is no place and no number of coins -/
structure OddN (d : D) : Prop where
  ok : d.okP = true
  nc : coinsB d = false
  np : ∀ m, withinB d 0 m = false
def sp_ldeep51 : SpM := fun u ds Q => ds = [] ∧ Pot u ∧ ∀ d u', OddN d → Pot u' → Q (.v d) u'
theorem odd_tup {xs : List D} : OddN (.tup xs) := ⟨rfl, rfl, fun _ => rfl⟩
theorem odd_lst {xs : List D} : OddN (.lst xs) := ⟨rfl, rfl, fun _ => rfl⟩
theorem wp_ldeep51 (a : Addr) (u : T) (ds : List D) (Q : T → T → Prop) (h : sp_ldeep51 u ds Q) : cd_ldeep51 (some (.at_ a u) :: ((ds.map fun d => some (T.v d)) ++ List.replicate (3 - (ds.length + 1)) none)) { nx := fun ρ => ∃ u', slot ρ 0 = some (.at_ a u') ∧ Q (.v .non) u', rt := fun r ρ => ∃ u', slot ρ 0 = some (.at_ a u') ∧ Q r u' } := by
  obtain ⟨rfl, hu, q⟩ := h
  change cd_ldeep51 [some (.at_ a u), none, none] _
  unfold cd_ldeep51
  obtain ⟨ts, rfl, hu⟩ := pot_L hu
  ((try dsimp only); rw [sSeq_def]; simp only [sSet, wFrz, wCallMS, onL, slot, List.set_cons_zero, ex_app2, aCons, wTup, aNil, lenk_0, wD, T.d_v, lenk_4, List.set_cons_succ, true_and])
  refine ⟨_, rfl, by decide, by decide, hu, fun d u _ hu => ?_⟩
  obtain ⟨ts, rfl, hu⟩ := pot_L hu
  ((try dsimp only); (try simp only [T.d_v]); rw [sSeq_def]; simp only [sFor, iRng1, aCons, wD, aNil, T.d_v, List.cons.injEq, D.int.injEq, and_true, rng_map, exists_eq_left'])
  refine ⟨by decide, by decide, ?_⟩
  refine forP_map (rngI (Int.toNat 36)) D.int (fun pre ρ => ∃ (u : T) (d : D) (x2 : Option T), ρ = [some (.at_ a u), some (.v d), x2] ∧ Pot u ∧ (pre = [] ∨ OddN d)) ⟨_, d, none, rfl, hu, .inl rfl⟩ ?_ ?_
  · rintro pre t post ρ e0 ⟨u, d, x2, rfl, hu, _⟩
    obtain ⟨ts, rfl, hu⟩ := pot_L hu
    simp only [gName, List.set_cons_succ, List.set_cons_zero]
    ((try dsimp only); rw [sSeq_def]; simp only [sSet, wFrz, wIf', tVal, wCmp, wCallMS, onL, slot, List.set_cons_zero, ex_app2, aCons, wD, aNil, T.d_v, T.v.injEq, D.bl.injEq, wTup, wVar, lenk_1, sNil, List.set_cons_succ, List.cons.injEq, Option.some.injEq, and_true, true_and, wLst, List.map_cons, List.map_nil, lst_v1, exists_eq_left', cmpW_eq])
    refine ⟨2, rfl, by decide, by decide, hu, fun r u r0 r1 hu => ?_⟩
    exact ⟨fun _ => ⟨_, _, _, ⟨rfl, rfl, rfl⟩, hu, .inr odd_tup⟩, fun _ => ⟨_, _, _, ⟨rfl, rfl, rfl⟩, hu, .inr odd_lst⟩⟩
  · rintro ρ ⟨u, d, x2, rfl, hu, h⟩
    have h : OddN d := h.resolve_left (by decide)
    ((try dsimp only); rw [sSeq_def]; simp only [sRet, wVar, slot, Option.some.injEq])
    exact ⟨_, rfl, q d _ h hu⟩
theorem ln_ldeep51 : ∀ u ds Q, sp_ldeep51 u ds Q → ds.length + 1 = 1 := by rintro u ds Q ⟨rfl, _⟩; rfl
end Vl
end
section
set_option maxRecDepth 100000
namespace Vl
open PySem L2
def cd_is_place (C : Addr) : WS :=
  sSeq (sRet (wCallS (sp_within C) (aCons (wVar 1) (aCons (wD (.int 0)) (aCons (wBin .Sub (wFld C "places" (wVar 0)) (wD (.int 1))) (aNil))))))
  (sNil)
def sp_is_place (C : Addr) : Sp := fun ds Q _ => ∃ (n : Int) (as : List Arw) (d : D), ds = [trD C n as, d] ∧ d.okC C ∧ Q (.v (.bl (withinB d 0 (n - 1))))
theorem wp_is_place (C : Addr) (ds : List D) (Q : T → Prop) (Qx : Xn → Prop) (h : sp_is_place C ds Q Qx) : cd_is_place C ((ds.map fun d => some (T.v d)) ++ List.replicate (2 - ds.length) none) { nx := fun _ => Q (.v .non), rt := fun r _ => Q r, ex := fun x _ => Qx x } := by
  obtain ⟨n, as, d, rfl, ok, q⟩ := h
  change cd_is_place C [some (.v (trD C n as)), some (.v d)] _
  unfold cd_is_place
  ((try dsimp only); rw [sSeq_def]; simp only [sRet, wCallS, aCons, wVar, slot, wD, wBin, T.d_v, aNil, wFld_def, fldW_p, binW_s])
  exact ⟨d, 0, n - 1, rfl, ok, q⟩
theorem ln_is_place (C : Addr) : ∀ ds Q Qx, sp_is_place C ds Q Qx → ds.length = 2 := by rintro ds Q Qx ⟨n, as, d, rfl, _⟩; rfl
end Vl
end
section
set_option maxRecDepth 100000
namespace Vl
open PySem L2
def cd_chkplaceR (C : Addr) (C_NoPlace : Addr) : WS :=
  sSeq (sIf (tNot' (tVal (wCallS (sp_is_place C) (aCons (wVar 0) (aCons (wVar 1) (aNil)))))) (sSeq (sRaise0 C_NoPlace)
  (sNil)) (sNil))
  (sNil)
def sp_chkplaceR (C C_NoPlace : Addr) : Sp := fun ds Q Qx => ∃ (n : Int) (as : List Arw) (d : D), ds = [trD C n as, d] ∧ d.okC C ∧ (withinB d 0 (n - 1) = true → Q (.v .non)) ∧ (withinB d 0 (n - 1) = false → Qx ⟨C_NoPlace, []⟩)
theorem wp_chkplaceR (C : Addr) (C_NoPlace : Addr) (ds : List D) (Q : T → Prop) (Qx : Xn → Prop) (h : sp_chkplaceR C C_NoPlace ds Q Qx) : cd_chkplaceR C C_NoPlace ((ds.map fun d => some (T.v d)) ++ List.replicate (2 - ds.length) none) { nx := fun _ => Q (.v .non), rt := fun r _ => Q r, ex := fun x _ => Qx x } := by
  obtain ⟨n, as, d, rfl, ok, q0, q1⟩ := h
  change cd_chkplaceR C C_NoPlace [some (.v (trD C n as)), some (.v d)] _
  unfold cd_chkplaceR
  ((try dsimp only); rw [sSeq_def]; simp only [sIf, tNot', tVal, wCallS, aCons, wVar, slot, aNil, T.d_v, sNil])
  refine ⟨n, as, d, rfl, ok, _, rfl, fun e => ?_, fun e => ?_⟩
  · ((try dsimp only); rw [sSeq_def]; simp only [sRaise0])
    exact q1 (by simpa using e)
  · exact q0 (by simpa using e)
theorem ln_chkplaceR (C : Addr) (C_NoPlace : Addr) : ∀ ds Q Qx, sp_chkplaceR C C_NoPlace ds Q Qx → ds.length = 2 := by rintro ds Q Qx ⟨n, as, d, rfl, _⟩; rfl
end Vl
end
section
set_option maxRecDepth 100000
namespace Vl
open PySem L2
def cd_chkhopeR (C : Addr) (C_NoPlace : Addr) (C_NotHopeful : Addr) : WS :=
  sSeq (sExpr (wCallS (sp_chkplaceR C C_NoPlace) (aCons (wVar 0) (aCons (wVar 1) (aNil)))))
  (sSeq (sIf (tVal (wCmp .NotIn (wVar 1) (wCallS (sp_hopeful C) (aCons (wVar 0) (aNil))))) (sSeq (sRaise0 C_NotHopeful)
  (sNil)) (sNil))
  (sNil))
/-- what is asked of a thing that ought to be a hopeful place -/
def HpQ (n : Int) (as : List Arw) (C_NoPlace C_NotHopeful : Addr) (d : D) (Qx : Xn → Prop) (P : Int → Prop) : Prop := (withinB d 0 (n - 1) = false → Qx ⟨C_NoPlace, []⟩) ∧ ∀ p : Int, d = .int p → 0 ≤ p → p < n → (¬ Rch as (leftF n (rankF n as)) p → P p) ∧ (Rch as (leftF n (rankF n as)) p → Qx ⟨C_NotHopeful, []⟩)
theorem within_is {n : Int} {d : D} (h : withinB d 0 (n - 1) = true) : ∃ p : Int, d = .int p ∧ 0 ≤ p ∧ p < n := by
  cases d with
  | int p =>
    have h : (decide (0 ≤ p) && decide (p ≤ n - 1)) = true := h
    simp at h
    exact ⟨p, rfl, h.1, by omega⟩
  | _ => cases h
def sp_chkhopeR (C C_NoPlace C_NotHopeful : Addr) : Sp := fun ds Q Qx => ∃ (n : Int) (as : List Arw) (d : D), ds = [trD C n as, d] ∧ Good n as ∧ d.okC C ∧ HpQ n as C_NoPlace C_NotHopeful d Qx fun _ => Q (.v .non)
theorem wp_chkhopeR (C : Addr) (C_NoPlace : Addr) (C_NotHopeful : Addr) (ds : List D) (Q : T → Prop) (Qx : Xn → Prop) (h : sp_chkhopeR C C_NoPlace C_NotHopeful ds Q Qx) : cd_chkhopeR C C_NoPlace C_NotHopeful ((ds.map fun d => some (T.v d)) ++ List.replicate (2 - ds.length) none) { nx := fun _ => Q (.v .non), rt := fun r _ => Q r, ex := fun x _ => Qx x } := by
  obtain ⟨n, as, d, rfl, ok, okd, q0, q1⟩ := h
  change cd_chkhopeR C C_NoPlace C_NotHopeful [some (.v (trD C n as)), some (.v d)] _
  unfold cd_chkhopeR
  have n1 := ok.n1
  have n2 := ok.n2
  ((try dsimp only); rw [sSeq_def]; simp only [sExpr, wCallS, aCons, wVar, slot, aNil, T.d_v])
  refine ⟨n, as, d, rfl, okd, fun e => ?_, q0⟩
  obtain ⟨p, rfl, p0, p1⟩ := within_is e
  obtain ⟨q0, q1⟩ := q1 p rfl p0 p1
  ((try dsimp only); rw [sSeq_def]; simp only [sIf, tVal, wCmp, wVar, slot, wCallS, aCons, aNil, T.d_v, T.v.injEq, D.bl.injEq, sNil, exists_eq_left', cmpW_nin])
  refine ⟨n, as, rfl, ok, fun h hh => ?_⟩
  have hp := hh p p0 p1
  simp only [T.d_v, inW_t, flat_i, true_and]
  have hfl : ((((rngI n.toNat).filter h).map D.int).all D.flat) = true := by
    rw [List.all_map, List.all_eq_true]
    intro x _
    rfl
  have hm : p ∈ (rngI n.toNat).filter h ↔ ¬ Rch as (leftF n (rankF n as)) p := by
    rw [List.mem_filter, rngI_mem, hp]
    exact ⟨fun z => z.2, fun z => ⟨⟨p0, by omega⟩, z⟩⟩
  rw [any_int]
  refine ⟨hfl, fun e => ?_, fun e => ?_⟩
  · ((try dsimp only); rw [sSeq_def]; simp only [sRaise0])
    refine q1 (Classical.byContradiction fun z => ?_)
    have := hm.mpr z
    simp [this] at e
  · have : p ∈ (rngI n.toNat).filter h := by simpa using e
    exact q0 (hm.mp this)
theorem ln_chkhopeR (C : Addr) (C_NoPlace : Addr) (C_NotHopeful : Addr) : ∀ ds Q Qx, sp_chkhopeR C C_NoPlace C_NotHopeful ds Q Qx → ds.length = 2 := by rintro ds Q Qx ⟨n, as, d, rfl, _⟩; rfl
end Vl
end
section
set_option maxRecDepth 100000
namespace Vl
open PySem L2
def cd_chkcoinsR (C : Addr) (C_NoCoins : Addr) : WS :=
  sSeq (sIf (tNot' (tVal (wCallS (sp_coins C) (aCons (wVar 0) (aNil))))) (sSeq (sRaise0 C_NoCoins)
  (sNil)) (sNil))
  (sNil)
def sp_chkcoinsR (C C_NoCoins : Addr) : Sp := fun ds Q Qx => ∃ (d : D), ds = [d] ∧ d.okC C ∧ (coinsB d = true → Q (.v .non)) ∧ (coinsB d = false → Qx ⟨C_NoCoins, []⟩)
theorem wp_chkcoinsR (C : Addr) (C_NoCoins : Addr) (ds : List D) (Q : T → Prop) (Qx : Xn → Prop) (h : sp_chkcoinsR C C_NoCoins ds Q Qx) : cd_chkcoinsR C C_NoCoins ((ds.map fun d => some (T.v d)) ++ List.replicate (1 - ds.length) none) { nx := fun _ => Q (.v .non), rt := fun r _ => Q r, ex := fun x _ => Qx x } := by
  obtain ⟨d, rfl, ok, q0, q1⟩ := h
  change cd_chkcoinsR C C_NoCoins [some (.v d)] _
  unfold cd_chkcoinsR
  ((try dsimp only); rw [sSeq_def]; simp only [sIf, tNot', tVal, wCallS, aCons, wVar, slot, aNil, T.d_v, sNil])
  refine ⟨_, rfl, ok, _, rfl, fun e => ?_, fun e => ?_⟩
  · ((try dsimp only); rw [sSeq_def]; simp only [sRaise0])
    exact q1 (by simpa using e)
  · exact q0 (by simpa using e)
theorem ln_chkcoinsR (C : Addr) (C_NoCoins : Addr) : ∀ ds Q Qx, sp_chkcoinsR C C_NoCoins ds Q Qx → ds.length = 1 := by rintro ds Q Qx ⟨d, rfl, _⟩; rfl
end Vl
end
section
set_option maxRecDepth 100000
/-! We1: isinstance of an object of an own class; == by an own __eq__, of objects that are alike. -/
namespace Vl
open PySem L2
section
variable {X : Cx} {a b : Expr} {wa wb : WE} {pos p p2 : Pos}
end
/-- what a heap holds, its dicts aside -/
def noDic (H : Hp) : Hp := fun a => match H a with
  | some (.dK _) => none
  | o => o
mutual
def D.tupy : D → Bool
  | .non => true
  | .int _ => true
  | .str _ => true
  | .tup xs => D.tupyL xs
  | _ => false
def D.tupyL : List D → Bool
  | [] => true
  | x :: xs => D.tupy x && D.tupyL xs
end
theorem noDic_sub {F H : Hp} (h : Sub F H) {a : Addr} {u : HO} (e : F a = some u) (hn : ∀ kvs, u ≠ .dK kvs) : noDic H a = some u := by
  rcases h a u e with h | ⟨o, kvs, rfl, _⟩
  · unfold noDic
    rw [h]
    cases u <;> first | rfl | exact absurd rfl (hn _)
  · exact absurd rfl (hn _)
mutual
theorem Den.noDic {K : PySem.W.Frag} {F H : Hp} (h : Sub F H) {v : V} : ∀ {d : D}, d.tupy = true → Den K F v d → Den K (noDic H) v d
  | .non, _, hd => by cases hd; exact .non
  | .int i, _, hd => by cases hd; exact .int i
  | .str s, _, hd => by cases hd; exact .str s
  | .tup xs, ht, hd => by
    cases hd with
    | tup e hl => exact .tup (noDic_sub h e fun kvs z => by cases z) (DenL.noDic h (by rw [D.tupy] at ht; exact ht) hl)
  | .bl _, ht, _ => by simp [D.tupy] at ht
  | .ty _, ht, _ => by simp [D.tupy] at ht
  | .ref _, ht, _ => by simp [D.tupy] at ht
  | .lst _, ht, _ => by simp [D.tupy] at ht
  | .dic _, ht, _ => by simp [D.tupy] at ht
  | .dit _, ht, _ => by simp [D.tupy] at ht
  | .obj _ _, ht, _ => by simp [D.tupy] at ht
theorem DenL.noDic {K : PySem.W.Frag} {F H : Hp} (h : Sub F H) : ∀ {vs : List V} {ds : List D}, D.tupyL ds = true → DenL K F vs ds → DenL K (noDic H) vs ds
  | [], [], _, hd => .nil
  | v :: vs, d :: ds, ht, hd => by
    rw [D.tupyL, Bool.and_eq_true] at ht
    cases hd with
    | cons h1 h2 => exact .cons (Den.noDic h ht.1 h1) (DenL.noDic h ht.2 h2)
  | [], _ :: _, _, hd => by cases hd
  | _ :: _, [], _, hd => by cases hd
end
section
variable {X : Cx} {a b : Expr} {wa wb : WE} {pos : Pos}
end
section
variable {P : Program} {w : World} {K : PySem.W.Frag} {mg : Str → Option Value} {base : Heap}
end
end Vl
end
section
set_option maxRecDepth 100000
/-! We2: < of tuples of whole numbers and texts of one shape. -/
namespace Vl
open PySem L2
section
variable {X : Cx} {a b : Expr} {wa wb : WE} {pos : Pos}
end
end Vl
end
section
set_option maxRecDepth 100000
/-! We3: a letter, many times over. -/
namespace Vt
open PySem L2
section
variable {X : Cx}
end
end Vt
namespace Vl
open PySem L2
section
variable {X : Cx} {Φ : T → Prop}
end
end Vl
end
section
set_option maxRecDepth 100000
/-! We4: repr of what a law holds (no repr under way: guards = some []). -/
namespace Vt
open PySem L2
section
variable {X : Cx}
end
end Vt
namespace Vl
open PySem L2
section
variable {X : Cx} {ds : List D} {Φ : T → Prop}
end
end Vl
end
section
set_option maxRecDepth 100000
/-! We5: a law that is run at the place where laws are called (there no repr is under way). -/
namespace Vl
open PySem L2 PySem.Spec PyProof.Rows
section
variable {P : Program} {w : World} {K : PySem.W.Frag} {mg : Str → Option Value} {base : Heap}
end
section
variable {P : Program} {w : World} {K : PySem.W.Frag} {mg mb : Str → Option Value}
end
section
variable {P : Program} {w : World} {K : PySem.W.Frag} {mg : Str → Option Value} {base : Heap}
end
end Vl
end
section
set_option maxRecDepth 100000
/-! We6: repr of an empty dict. -/
namespace Vt
open PySem L2
section
variable {X : Cx}
end
end Vt
namespace Vl
open PySem L2
section
variable {X : Cx} {ds : List D} {Φ : T → Prop}
end
end Vl
end
section
set_option maxRecDepth 100000
/-! We7: t[::-1] of a tuple. -/
namespace Vt
open PySem L2 HT Builtin Builtin.Slice PyProof.Rows
section
variable {prog : Program} {w : World} {A : Around} {E : Value → Shared → Prop} {s : Shared}
end
section
variable {X : Cx}
end
end Vt
namespace Vl
open PySem L2
section
variable {X : Cx} {a : Expr} {wa : WE}
end
end Vl
end
section
set_option maxRecDepth 100000
/-! We8: f() without arguments. -/
namespace Vt
open PySem L2
section
variable {X : Cx} {CX : CXT} {k : Nat} {f : Addr} {fd : FuncData} {ps : List Str} {sp : L2.Sp} {E : L2.St → XK} {x : Str} {p pos : Pos}
end
end Vt
namespace Vl
open PySem L2
section
variable {X : Cx} {p pos : Pos}
end
end Vl
end
section
set_option maxRecDepth 100000
/-! We9: len(set(texts)). -/
namespace Vl
open PySem L2
section
variable {X : Cx} {e : Expr} {we : WE} {p p2 pos pos2 : Pos}
end
end Vl
end
section
set_option maxRecDepth 100000
/-! We10: list(d.values()). -/
namespace Vt
open PySem L2 PySem.Spec PyProof.Rows
section
variable {X : Cx} {o : Expr} {p pos apos mpos : Pos} {td : TE}
end
end Vt
namespace Vl
open PySem L2
section
variable {X : Cx} {o : Expr} {wa : WE} {p pos apos mpos : Pos}
end
end Vl
end
section
set_option maxRecDepth 100000
/-! We11: list of a text. -/
namespace Vt
open PySem L2 PySem.Spec PyProof.Rows
section
variable {X : Cx}
end
end Vt
namespace Vl
open PySem L2
section
variable {X : Cx} {ds : List D} {Φ : T → Prop}
end
end Vl
end
section
set_option maxRecDepth 100000
set_option maxHeartbeats 2000000
/-! We12: sorted({..}) of texts. -/
namespace Vl
open PySem PySem.Spec PyProof.Rows L2 PySem.Froz
section
variable {P : Program} {w : World} {A : Around} {E : Value → Shared → Prop} {s : Shared}
end
section
variable {X : Cx} {tg it elt c : Expr} {ifs : List Expr} {scope : Scope} {own : List (PySem.Str × Nat)} {ρ ρ1 : Rho} {wi : WI} {wg : WG} {wc : WT} {we : WE} {pos p p2 : Pos} {vs : List Nat}
end
end Vl
end
section
set_option maxRecDepth 100000
/-! We13: xs.pop(n) as a value. -/
namespace Vl
open PySem L2
section
variable {X : Cx} {b : Expr} {wb : WE} {xa : Str} {pa apos cpos : Pos}
end
end Vl
end
section
set_option maxRecDepth 100000
/-! We14: == and != of plain data (bools among them) as tests. -/
namespace Vl
open PySem L2
section
variable {X : Cx} {a b : Expr} {wa wb : WE} {pos : Pos}
theorem rt_neP (hu : X.A.units + 64 < cLine) (ha : RfE X a wa) (hb : RfE X b wb) (hm : behindInMarks .NotEq b = false := by first | exact nomark _ | rfl) : RfT X (.Compare a [.NotEq] [b] pos) (tVal (wEqP true wa wb)) := fun ρ Φ Ξ h B F0 st vst σ H Q Wx tk hl R k kx =>
  ⟨_, pt_cmpR opr_u (pe_u X a) (pe_u X b) hm, op2_run (f := compareOp .NotEq) (Φ := fun t ρ1 => ∃ c, t = .v (.bl c) ∧ Φ c ρ1) ((ha _ _ _ h).mono fun r ρ1 h1 => (hb _ _ _ h1).mono fun s ρ2 h2 => cmp_of (cv_neD hu h2.1.1 h2.2.1.1 h2.1.2 h2.2.1.2) (by simpa using h2.2.2)) B F0 st vst σ H _ Wx tk hl R (fun r ρ1 v H1 h1 R1 => by
    obtain ⟨c, rfl, h2⟩ := h1
    exact ⟨c, R1.headB, k c ρ1 H1 h2 R1.drop⟩) kx⟩
end
end Vl
end
section
set_option maxRecDepth 100000
/-! We15: enumerate(d.values()). -/
namespace PySem.Vy
open PySem Builtin
section
variable {prog : Program} {w : World} {K : Type} [DecidableEq K] {knd : KeyKind prog w K} {A : Around} {E : Value → Shared → Prop} {s : Shared} {it d e : Addr} {i ep : Nat} {v : Value} {kvs : List (K × Value)}
theorem next_vals {k : K} {Q : Value → Shared → Prop} (ht : s.heap.IsValIter it d i kvs.length ep) (hm : s.heap.DictAt knd d kvs ep) (hx : kvs[i]? = some (k, v))
    (hQ : ∀ h', h'.IsValIter it d (i + 1) kvs.length ep → Heap.SameBut it s.heap h' → Q v { s with heap := h' }) : wpAny (model prog w) A (SmallTypes.nextOf (.ref it)) Q E s := by
  obtain ⟨o, ho, hc, hd⟩ := id ht
  obtain ⟨od, es, q1, q2, q3, q4, pr, q5⟩ := id hm
  have hT : s.TypeIs (.ref it) "dict_valueiterator" := ht.typeIs
  have hz : es.size = kvs.length := by rw [← pr.length]; simp
  have hlt : i < es.size := by rw [hz]; exact (List.getElem?_eq_some_iff.mp hx).1
  obtain ⟨_, hval⟩ := pr.get? (e := es[i]) (by simp [hlt]) hx
  unfold SmallTypes.nextOf
  refine bnd (wpAny_callSpecial?_slot (name := Str.ofString "__next__") hT F.slot_dict_valueiterator_next (wpAny_call_entry F.slot_dict_valueiterator_next hT F.entry_dict_valueiterator_next ?_ (F.args_dict_valueiterator_next_1 _)))
  refine bnd (wpAny_pure (wpAny_bind (wpAny_bind ?_)))
  refine bnd (wpAny_typeNameOfWhole_valiter hT (wpAny_pure (wpAny_bind (wpAny_fieldsOf ho hd ?_))))
  have hown : Dict_items.ownsTuple "dict_valueiterator" = false := by decide
  simp only [hown, Bool.false_eq_true, if_false]
  show wpAny _ _ (if (Value.ref d == Value.none) = true then _ else _) _ _ _
  rw [if_neg (fun q => by exact Bool.false_ne_true q)]
  refine bnd (wpAny_pure (wpAny_bind (wpAny_dictEntries q1 q3 ?_)))
  rw [if_neg (by simp [hz])]
  refine bnd (wpAny_pure (wpAny_bind (wpAny_dictEpoch q1 q3 ?_)))
  rw [if_neg (by simp)]
  refine wpAny_pure ?_
  simp only [show ¬ ((i : Int) < 0) by omega, if_false, Int.toNat_natCast, Array.getElem?_eq_getElem hlt]
  refine bnd (wpAny_bind (wpAny_typeNameOfWhole_valiter hT (wpAny_pure (wpAny_bind (wpAny_isOneOf_valiter hT ?_)))))
  show wpAny _ _ (setField (.ref it) 1 (rawInt ((i : Int) + 1)) >>= _) _ _ s
  refine bnd (wpAny_setField ho hd (by simp) ?_)
  have ht' : (s.heap.update it (Obj.mapFields (·.setIfInBounds 1 (rawInt ((i : Int) + 1))))).IsValIter it d (i + 1) kvs.length ep :=
    ⟨_, Heap.get?_update_self _ ho (Obj.isFreed_of_fields (Obj.data_mapFields hd _)), (Obj.cls_mapFields ..).trans hc, by rw [Obj.data_mapFields hd]; simp [rawInt]⟩
  have sb : Heap.SameBut it s.heap (s.heap.update it (Obj.mapFields (·.setIfInBounds 1 (rawInt ((i : Int) + 1))))) := Heap.SameBut.update ..
  generalize s.heap.update it (Obj.mapFields (·.setIfInBounds 1 (rawInt ((i : Int) + 1)))) = h1 at ht' sb ⊢
  have hT1 : Shared.TypeIs { s with heap := h1 } (.ref it) "dict_valueiterator" := ht'.typeIs
  refine bnd (wpAny_holding (wpAny_bind (wpAny_isOneOf_valiter hT1 (wpAny_bind (wpAny_isOneOf_valiter hT1 ?_)))))
  show wpAny _ _ (pure es[i].val) _ _ _
  rw [hval]
  exact wpAny_pure (wpAny_pure ⟨_, rfl, wpAny_pure (hQ _ ht' sb)⟩)
theorem end_vals {Q : Value → Shared → Prop} (hh : A.handled = none) (ht : s.heap.IsValIter it d i kvs.length ep) (hm : s.heap.DictAt knd d kvs ep) (hx : kvs[i]? = none)
    (hE : ∀ h' x, Heap.ExtBut it s.heap h' → (∃ o, h'.get? x = some o ∧ o.cls = .type "StopIteration") → E (.ref x) { s with heap := h' }) : wpAny (model prog w) A (SmallTypes.nextOf (.ref it)) Q E s := by
  obtain ⟨o, ho, hc, hd⟩ := id ht
  obtain ⟨od, es, q1, q2, q3, q4, pr, q5⟩ := id hm
  have hT : s.TypeIs (.ref it) "dict_valueiterator" := ht.typeIs
  have hz : es.size = kvs.length := by rw [← pr.length]; simp
  have hge : es.size ≤ i := by rw [hz]; simpa using hx
  unfold SmallTypes.nextOf
  refine bnd (wpAny_callSpecial?_slot (name := Str.ofString "__next__") hT F.slot_dict_valueiterator_next (wpAny_call_entry F.slot_dict_valueiterator_next hT F.entry_dict_valueiterator_next ?_ (F.args_dict_valueiterator_next_1 _)))
  refine bnd (wpAny_pure (wpAny_bind (wpAny_bind ?_)))
  refine bnd (wpAny_typeNameOfWhole_valiter hT (wpAny_pure (wpAny_bind (wpAny_fieldsOf ho hd ?_))))
  have hown : Dict_items.ownsTuple "dict_valueiterator" = false := by decide
  simp only [hown, Bool.false_eq_true, if_false]
  show wpAny _ _ (if (Value.ref d == Value.none) = true then _ else _) _ _ _
  rw [if_neg (fun q => by exact Bool.false_ne_true q)]
  refine bnd (wpAny_pure (wpAny_bind (wpAny_dictEntries q1 q3 ?_)))
  rw [if_neg (by simp [hz])]
  refine bnd (wpAny_pure (wpAny_bind (wpAny_dictEpoch q1 q3 ?_)))
  rw [if_neg (by simp)]
  refine wpAny_pure ?_
  simp only [show ¬ ((i : Int) < 0) by omega, if_false, Int.toNat_natCast, Array.getElem?_eq_none hge]
  refine bnd (wpAny_bind (wpAny_typeNameOfWhole_valiter hT (wpAny_pure ?_)))
  show wpAny _ _ (setField (.ref it) 0 .none >>= _) _ _ s
  refine bnd (wpAny_setField ho hd (by simp) ?_)
  show wpAny _ _ (newExc (.type "StopIteration") [] >>= _) _ _ _
  simp only [newExc, newTuple]
  refine bnd (wpAny_bind (wpAny_newObj_type ?_ (by size_fits)))
  refine wpAny_bind (m := firstArgMember _ _) (wpAny_of_eq (a := Value.none) (by first | rfl | exact (by unfold firstArgMember; rfl)) (wpAny_newObj_type ?_ (by size_fits)))
  simp only [raiseNew]
  refine bnd (wpAny_handled ?_)
  rw [show A.in1.handled = none from hh]
  refine bnd (wpAny_pure (wpAny_throw (hE _ _ (((Heap.SameBut.update ..).extBut.push _).push _) ⟨_, Heap.get?_push_size _ rfl, rfl⟩)))
theorem draws_vals (hh : A.handled = none) (hne : d ≠ it) :
    Draws prog w A it [it, d] kvs.length (fun i v => ∃ k, kvs[i]? = some (k, v)) (fun i h => h.IsValIter it d i kvs.length ep ∧ h.DictAt knd d kvs ep) where
  live := fun _ _ st => let ⟨o, ho, _⟩ := st.1; ⟨o, ho⟩
  frame := fun _ _ _ st hk => ⟨st.1.at fun o e => hk it (by simp) o e, st.2.at' fun o e => hk d (by simp) o e⟩
  item := fun i s Q E hi st hQ => by
    have hx : kvs[i]? = some (kvs[i].1, kvs[i].2) := List.getElem?_eq_getElem hi
    refine next_vals st.1 st.2 hx fun h' hit' hs' => ?_
    exact hQ _ h' s.toks ⟨_, hx⟩ ⟨hit', st.2.at' fun o e => (hs'.2 d hne).trans e⟩ hs'
  done := fun s Q E st hE => end_vals hh st.1 st.2 (by simp) hE
end
theorem begins_vals (v d : Addr) (es : Array DictEntry) (ep : Nat) : Begins (.ref v) { cls := .type "dict_valueiterator", data := .fields #[.ref d, .int 0 0, .int es.size 0, .int ep 0] } fun h => h.IsValuesView v d ∧ h.DictRaw d es ep where
  iter := fun prog w A E s Q hl h => wpAny_pyIter_values_raw hl.1 hl.2 h
  keeps := fun h h' x hk => ⟨by obtain ⟨o, ho, r⟩ := x.1; exact ⟨o, hk _ _ ho, r⟩, x.2.at fun o e => hk d o e⟩
  free := rfl
end PySem.Vy
namespace L2
open PySem PySem.Spec PyProof.Rows PySem.Vy
section
variable {P : Program} {w : World} {K : PySem.W.Frag} {d : Addr} {o : Obj} {es : Array DictEntry} {ep : Nat} {elts : List Expr} {kk : Nat} {tpos : Pos}
def ItvE (d : Addr) (o : Obj) (kvs : List (Key × V)) : It :=
  ⟨fun i H => H d = some (.frz o (.dK kvs)) ∧ i < kvs.length,
   fun i H v H' => ∃ T k w, kvs[i]? = some (k, w) ∧ v = .ref T ∧ H T = none ∧ H' = upd H T (.tup [.int (i : Nat), w]),
   fun i H => H d = some (.frz o (.dK kvs)) ∧ kvs.length ≤ i⟩
theorem turn_enumV {kvs : List (Key × V)} (e it : Addr) (hod : o.data = .dict es ep) :
    Turn P w K (.Tuple elts kk tpos) (ItvE d o kvs) [e, it] e (fun i h => (∃ old, IsEnum h e it ((i : Nat) : Int) old) ∧ h.IsValIter it d i kvs.length ep ∧ e ≠ it) where
  mem := by simp
  obj := fun i h st b hb => by
    obtain ⟨⟨old, he⟩, ⟨o, ho, hc, hd⟩, _⟩ := st
    have e' : b = e ∨ b = it := by simpa using hb
    rcases e' with z | z
    · rw [z]; exact ⟨_, he, fun v q => nomatch q⟩
    · rw [z]; exact ⟨o, ho, fun v q => by rw [hd] at q; cases q⟩
  keep := fun i h h' st k => let ⟨⟨old, he⟩, hi, hne⟩ := st; ⟨⟨old, k e (by simp) _ he⟩, hi.at fun o q => k it (by simp) o q, hne⟩
  item := by
    intro X hP hw hK hc i pins s σ H E I hf st hg
    subst hP hw hK
    obtain ⟨⟨old, he⟩, hit, hne⟩ := st
    obtain ⟨hd, hi⟩ := hg
    obtain ⟨hs, hgd, hx, es', ep', vs, hdt, hsz, kv, hm⟩ := I.frzK hd
    obtain ⟨rfl, rfl⟩ : es' = es ∧ ep' = ep := by rw [hod] at hdt; cases hdt; exact ⟨rfl, rfl⟩
    obtain ⟨⟨k, v⟩, hkv⟩ : ∃ p, kvs[i]? = some p := ⟨kvs[i], List.getElem?_eq_getElem hi⟩
    obtain ⟨u, hu, ru⟩ := kv_get kv hkv
    have hl : kvs.length = vs.length := Paired.length kv
    rw [hl] at hit
    have hel : e < s.heap.objs.size := Heap.lt_size he
    have hil : it < s.heap.objs.size := by obtain ⟨_, q, _⟩ := hit; exact Heap.lt_size q
    have hdi : d ≠ it := fun z => by
      obtain ⟨o2, e2, c2, _⟩ := hit
      have := hm.dictOf.typeIs (s := s)
      obtain ⟨o3, e3, c3⟩ := this
      rw [z, e2] at e3
      cases e3
      rw [c3] at c2
      exact absurd c2 (by decide)
    have hed : e ≠ d := fun z => by
      obtain ⟨o3, e3, c3⟩ := hm.dictOf.typeIs (s := s)
      rw [← z, he] at e3
      cases e3
      have c2 : Value.type "enumerate" = Value.type "dict" := c3
      exact absurd c2 (by decide)
    refine wpAny_pyNext_enum_itemD (draws_vals (prog := X.prog) (w := X.w) (A := X.A.in1) (show X.A.in1.handled = none from I.ok.hd hc) hdi) he ⟨hit, hm⟩ (by omega) hne (by simp [hne, hed]) fun u' h' tk hu' ho st' hT hsz2 hk => ?_
    obtain ⟨hit', _⟩ := st'
    obtain ⟨kx, hu'⟩ := hu'
    obtain rfl : u' = u := by
      rw [hu] at hu'
      cases hu'
      rfl
    refine ⟨_, rfl, wpAny_letOwnedTupleGo_enum (s := { s with heap := h', toks := tk + 1 }) ho fun h'' he' sb => ?_⟩
    have hT2 : h''.get? s.heap.objs.size = some { cls := .type "tuple", data := .seq #[.int i tk, u'] } := (sb.2 _ (Nat.ne_of_gt hel)).trans hT
    have new : ObjOk X.prog X.w (upd H s.heap.objs.size (.tup [.int (i : Nat), v])) h'' s.heap.objs.size (.tup [.int (i : Nat), v]) :=
      ⟨by show 2 ≤ sizeLine; decide, [.int i tk, u'], .cons ⟨_, rfl⟩ (.cons ru .nil), ⟨_, hT2, rfl, _, rfl⟩⟩
    have I1 : Inv X pins σ (upd H s.heap.objs.size (.tup [.int (i : Nat), v])) { s with heap := h'', toks := tk + 1 } :=
      I.turnedNew (ch := [e, it]) (fun b ob hb q => (sb.2 b (fun z => hb (by simp [z]))).trans (hk b ob (fun z => hb (by simp [z])) (fun z => hb (by simp [z])) q)) hf (Nat.le_refl _) new
    refine ⟨.ref s.heap.objs.size, _, I1, rfl, ⟨_, k, v, hkv, rfl, I.hok.fresh (Nat.le_refl _), rfl⟩, ⟨⟨u', ?_⟩, ?_, hne⟩, fun b hb => ?_⟩
    · have e1 : ((i + 1 : Nat) : Int) = (i : Int) + 1 := by omega
      rw [e1]; exact he'
    · rw [hl]
      exact hit'.at fun o q => (sb.2 it (Ne.symm hne)).trans q
    · have hb' : b < s.heap.objs.size := by
        have e' : b = e ∨ b = it := by simpa using hb
        rcases e' with z | z
        · rw [z]; exact hel
        · rw [z]; exact hil
      rw [upd_ne (Nat.ne_of_lt hb')]
      exact (hf b hb).1
  done := by
    intro X hP hw hK hc i pins s σ H E I hf st hg
    subst hP hw hK
    obtain ⟨⟨old, he⟩, hit, hne⟩ := st
    obtain ⟨hd, hi⟩ := hg
    obtain ⟨f0, f1, f2, f3, f4, f5⟩ := hf it (by simp)
    obtain ⟨hs, hgd, hx, es', ep', vs, hdt, hsz, kv, hm⟩ := I.frzK hd
    obtain ⟨rfl, rfl⟩ : es' = es ∧ ep' = ep := by rw [hod] at hdt; cases hdt; exact ⟨rfl, rfl⟩
    have hl : kvs.length = vs.length := Paired.length kv
    rw [hl] at hit
    have hT : s.TypeIs (.ref e) "enumerate" := ⟨_, he, rfl⟩
    unfold pyNext
    refine wpAny_bind (wpAny_attempt (wpAny_callSpecial?_slot (name := Str.ofString "__next__") hT F.slot_enumerate_next
      (wpAny_call_entry F.slot_enumerate_next hT F.entry_enumerate_next ?_ (F.args_enumerate_next_1 _))))
    show wpAny _ _ (field (.ref e) 2 >>= _) _ _ _
    refine wpAny_bind (wpAny_field he rfl (x := .ref it) rfl ?_)
    refine wpAny_bind (end_vals (I.ok.hd hc) hit hm (List.getElem?_eq_none (by omega)) fun h' x he' hx' => ?_)
    obtain ⟨o, ho, hc⟩ := hx'
    refine wpAny_bind (wpAny_isInstance (T := "StopIteration") (b := true) ⟨o, ho, hc⟩ isSubtype_stop ?_)
    exact wpAny_pure ⟨rfl, I.turned (t' := s.toks) (fun b o hb q => he' b o hb q) f0 f1 f3 f4 f5⟩
  self := fun A i s Q E st h => let ⟨⟨_, he⟩, _⟩ := st; wpAny_pyIter_enum he h
def iEnumVl (td : TE) : TI := fun σ H R => td σ H fun x H1 => ∃ d o kvs, x = .ref d ∧ H1 d = some (.frz o (.dK kvs)) ∧ R (ItvE d o kvs) H1
end
section
variable {X : Cx} {e : Expr} {td : TE} {p pos tpos apos cpos : Pos} {elts : List Expr} {kk : Nat}
theorem pi_enumV (hg : Gl X "enumerate") (hm : X.mg "enumerate" = none) (he : PE X e td) (hbase : attributeBase e "values" X.env (eval e X.env) = eval e X.env := by rfl) (hline : (apos.endLine == cpos.line) = true := by rfl)
    (hst : starEach [.Call (.Attribute e "values" apos) [] [] cpos] X.env = [(false, eval (.Call (.Attribute e "values" apos) [] [] cpos) X.env)] := by rfl) :
    PI X (.Tuple elts kk tpos) (.Call (.Name "enumerate" p) [.Call (.Attribute e "values" apos) [] [] cpos] [] pos) (iEnumVl td) := by
  refine ⟨fun pins s σ H R I h => ?_⟩
  refine Call_ (ld_blt I hg hm boot_enumerate (PyProof.Rows.callWith_type1 (args_cons ?_ hst) hst rfl))
  refine wpAny_Call_method (T := "dict") (id := "dict.values") hbase rfl hline F.plainAttrs_dict F.slot_dict_values F.type_dict_values (thn (he.run pins s σ H _ I h) fun u s1 ⟨x, H1, I1, rx, d, o, kvs, ex, hd, q⟩ => ?_)
  subst ex
  obtain rfl : u = Value.ref d := rx
  obtain ⟨hs, hgd, hx, es, ep, vs, hdt, hsz, kv, hm1⟩ := I1.frzK hd
  refine ⟨hm1.dictOf.typeIs, hm1.dictOf.mapOf.noDict, ?_⟩
  have I2 : Inv X pins σ H1 { s1 with heap := s1.heap.push { cls := .type "dict_values", data := .fields #[.ref d] } } := I1.kept (t' := s1.toks) fun b ob q => Heap.get?_push_of_some _ q
  have fin : wpAny (model X.prog X.w) X.A (call (.type "enumerate") [.ref s1.heap.objs.size]) (fun v s3 => wpAny (model X.prog X.w) X.A (pyIter v) (PIE X pins σ (.Tuple elts kk tpos) R) X.xe s3) X.xe { s1 with heap := s1.heap.push { cls := .type "dict_values", data := .fields #[.ref d] } } := by
    refine enum_at (s := { s1 with heap := s1.heap.push { cls := .type "dict_values", data := .fields #[.ref d] } }) (begins_vals s1.heap.objs.size d es ep) ⟨⟨_, Heap.get?_push_size _ rfl, rfl, rfl⟩, ⟨o, Heap.get?_push_of_some _ hgd, hx, hdt⟩⟩ fun h' e1 e2 e3 e4 => wpAny_pyIter_enum e1 ?_
    have I3 := I2.kept (t' := s1.toks) (h' := h') e4
    generalize s1.heap.push { cls := .type "dict_values", data := .fields #[.ref d] } = hh at I2 I3 e1 e2 e3 e4
    refine ⟨hh.objs.size + 1, [hh.objs.size + 1, hh.objs.size], _, _, H1, rfl, I3, turn_enumV (hh.objs.size + 1) hh.objs.size hdt, ⟨⟨.none, e1⟩, ⟨_, e2, rfl, ?_⟩, Nat.succ_ne_self _⟩, fun b hb => ?_, q⟩
    · rw [← hsz]; rfl
    · have e' : b = hh.objs.size + 1 ∨ b = hh.objs.size := by simpa using hb
      have hle : hh.objs.size ≤ b := by
        rcases e' with z | z
        · rw [z]; exact Nat.le_add_right _ _
        · rw [z]; exact Nat.le_refl _
      exact I2.fpOk hle (I2.hok.fresh hle)
  show wpAny _ _ (callWith cpos (.builtin "dict.values") [.ref d] [] []) _ X.xe s1
  exact method_meetsIn F.slot_dict_values F.entry_dict_values rfl (PySem.evalArgs_none ⟨rfl, hm1.dictOf.typeIs, F.args_dict_values_1 _, _, meets_dict_values (mixKind X.prog X.w) d hs, ⟨vs, hm1.dictOf⟩, args_nil fin⟩)
end
end L2
namespace Vl
open PySem L2
section
variable {X : Cx} {a : Expr} {wa : WE} {elts : List Expr} {kk : Nat} {p pos tpos apos cpos : Pos}
/-- enumerate(d.values()) -/
def iEnuV (a : WE) : WI := fun ρ Φ Ξ => a ρ (fun r ρ1 => match r.d with
  | .dic kvs => Φ (kvs.zipIdx.map fun q => D.tup [.int (q.2 : Nat), q.1.2]) ρ1
  | _ => False) Ξ
theorem ri_enumV (ha : RfE X a wa) (hm : X.mg "enumerate" = none) (hg : Gl X "enumerate" := by rfl) (hbase : attributeBase a "values" X.env (eval a X.env) = eval a X.env := by rfl) (hline : (apos.endLine == cpos.line) = true := by rfl)
    (hst : starEach [.Call (.Attribute a "values" apos) [] [] cpos] X.env = [(false, eval (.Call (.Attribute a "values" apos) [] [] cpos) X.env)] := by rfl) :
    RfI X (.Tuple elts kk tpos) (.Call (.Name "enumerate" p) [.Call (.Attribute a "values" apos) [] [] cpos] [] pos) (iEnuV wa) := fun ρ Φ Ξ h =>
  ⟨_, pi_enumV hg hm (pe_lk (pe_u X a)) hbase hline hst, fun B F0 st vst σ H Rk Wx tk hl R k kx => ha _ _ _ h B F0 st vst σ H _ Wx tk hl R (fun r ρ1 v H1 h1 R1 => by
    have R1' := Rl.frz1 R1
    generalize r.d = rd at h1 R1'
    split at h1
    · rename_i kvs
      refine lock_any R1' ?_
      intro d o ks B1 F1 H2 ev R2 g1 hk q bk
      have hlen : ks.length = kvs.length := by have := congrArg List.length hk; simpa using this
      have go : ∀ {B' F' ρ' σ' H'} {i : Nat}, Same F1 F' → Rl X.K B' F' ρ' σ' H' → H' d = some (.frz o (.dK ks)) := fun sm R' => R'.frzAt (sm _ _ g1)
      refine ⟨d, o, ks, ev, R2.frzAt g1, k _ ρ1 _ B1 F1 H2 h1 R2 ⟨fun B' F' i ρ' σ' H' sm hi R' => ⟨⟨go (i := i) sm R', by simp at hi; omega⟩, ?_⟩, fun B' F' i ρ' σ' H' sm hi R' => ⟨go (i := i) sm R', by simp at hi; omega⟩⟩ bk⟩
      rintro x H3 ⟨TT, key, w, hx, rfl, hT, rfl⟩
      obtain ⟨d', g0⟩ := keys_get hk hx
      have hx2 : (ks.map (·.2))[i]? = some w := by rw [List.getElem?_map, hx]; rfl
      obtain ⟨d2, g1, g2⟩ := q.get' hx2
      rw [List.getElem?_map, g0] at g1
      cases g1
      have e1 : (kvs.zipIdx.map fun q => D.tup [.int (q.2 : Nat), q.1.2]).getD i .non = .tup [.int (i : Nat), d'] := by
        rw [List.getD_eq_getElem?_getD, List.getElem?_map, List.getElem?_zipIdx, g0]; simp
      rw [e1]
      have R3 : Rl X.K B' F' (([D.int (i : Nat), d'].map fun d => some (T.v d)) ++ ρ') ([V.int (i : Nat), w].map some ++ σ') H' := (R'.pushF (g2.mono sm)).pushS fun _ => .int _
      exact R3.newTup rfl hT
    · exact h1.elim) kx⟩
end
end Vl
end
section
set_option maxRecDepth 100000
namespace Vl
open PySem L2
def cd_fewest : WS :=
  sSeq (sSet 2 (wFrz (wB bSum (aCons (wLc [3] (iVal (wVar 0)) (gName 3) (tYes) (wCallS (sp_reciprocal) (aCons (wVar 3) (aNil)))) (aNil)))))
  (sSeq (sSet 4 (wFrz (wNeg (wBin .FloorDiv (wBin .Mult (wNeg (wVar 2)) (wBin .Add (wVar 1) (wD (.int 1)))) (wBin .Sub (wD (.int 2520)) (wVar 2))))))
  (sSeq (sSet 5 (wFrz (wB bSum (aCons (wLc [3] (iVal (wVar 0)) (gName 3) (tYes) (wNeg (wBin .FloorDiv (wNeg (wBin .Add (wBin .Add (wVar 1) (wVar 4)) (wD (.int 1)))) (wVar 3)))) (aNil)))))
  (sSeq (sWhile (tVal (wCmp .Gt (wVar 5) (wVar 4))) (sSeq (sSet 4 (wFrz (wVar 5)))
  (sSeq (sSet 5 (wFrz (wB bSum (aCons (wLc [3] (iVal (wVar 0)) (gName 3) (tYes) (wNeg (wBin .FloorDiv (wNeg (wBin .Add (wBin .Add (wVar 1) (wVar 4)) (wD (.int 1)))) (wVar 3)))) (aNil)))))
  (sNil))))
  (sSeq (sRet (wVar 4))
  (sNil)))))
/-- the sum of what the letters must be laid -/
def upS (ps : List Int) (m : Int) : Int := (ps.map fun p => -(-m / p)).sum
/-- the fewest coins that may be laid -/
structure LaidOk (ps : List Int) (l x : Int) : Prop where
  nn : 0 ≤ x
  ok : upS ps (l + x + 1) ≤ x
  lo : ∀ y, 0 ≤ y → upS ps (l + y + 1) ≤ y → x ≤ y
def shareS (ps : List Int) : Int := (ps.map fun p => 2520 / p).sum
def sp_fewest : Sp := fun ds Q _ => ∃ (ps : List Int) (l : Int), ds = [.lst (ps.map D.int), .int l] ∧ (∀ p ∈ ps, 1 ≤ p ∧ p ≤ 9) ∧ ps.length ≤ 60 ∧ shareS ps < 2520 ∧ 0 ≤ l ∧ ∀ x, LaidOk ps l x → Q (.v (.int x))
theorem up_ge {m p : Int} (h : 1 ≤ p) : m ≤ p * -(-m / p) ∧ p * -(-m / p) ≤ m + p - 1 := by
  have h1 := Int.mul_ediv_add_emod (-m) p
  have h2 := Int.emod_nonneg (-m) (show p ≠ 0 by omega)
  have h3 := Int.emod_lt_of_pos (-m) (show 0 < p by omega)
  rw [Int.mul_neg]
  omega
theorem div9 {p : Int} (h : 1 ≤ p ∧ p ≤ 9) : p * (2520 / p) = 2520 := by
  have : p = 1 ∨ p = 2 ∨ p = 3 ∨ p = 4 ∨ p = 5 ∨ p = 6 ∨ p = 7 ∨ p = 8 ∨ p = 9 := by omega
  rcases this with rfl | rfl | rfl | rfl | rfl | rfl | rfl | rfl | rfl <;> decide
theorem up_w {m p : Int} (h : 1 ≤ p ∧ p ≤ 9) : (2520 / p) * m ≤ 2520 * -(-m / p) ∧ 2520 * -(-m / p) ≤ (2520 / p) * m + 2520 := by
  obtain ⟨h1, h2⟩ := up_ge (m := m) h.1
  have h3 := div9 h
  generalize -(-m / p) = c at h1 h2 ⊢
  generalize 2520 / p = q at h3 ⊢
  have q0 : 0 ≤ q := by
    refine Classical.byContradiction fun z => ?_
    have : p * q ≤ p * (-1) := Int.mul_le_mul_of_nonneg_left (by omega) (by omega)
    omega
  have e1 : 2520 * c = q * (p * c) := by rw [← h3, Int.mul_comm p q, Int.mul_assoc]
  have h4 := Int.mul_le_mul_of_nonneg_left h1 q0
  have h5 := Int.mul_le_mul_of_nonneg_left h2 q0
  have e2 : q * (m + p - 1) = q * m + 2520 - q := by
    rw [Int.mul_sub, Int.mul_add, Int.mul_comm q p, h3, Int.mul_one]
  omega
theorem upS_w {ps : List Int} {m : Int} (h : ∀ p ∈ ps, 1 ≤ p ∧ p ≤ 9) : shareS ps * m ≤ 2520 * upS ps m ∧ 2520 * upS ps m ≤ shareS ps * m + 2520 * ps.length := by
  unfold shareS upS
  induction ps with
  | nil => simp
  | cons p ps ih =>
    obtain ⟨h1, h2⟩ := ih fun q hq => h q (List.mem_cons_of_mem _ hq)
    obtain ⟨h3, h4⟩ := up_w (m := m) (h p List.mem_cons_self)
    simp only [List.map_cons, List.sum_cons, List.length_cons, Int.add_mul, Int.mul_add] at h1 h2 ⊢
    omega
theorem up_mono {p a b : Int} (h : 1 ≤ p) (hab : a ≤ b) : -(-a / p) ≤ -(-b / p) := by
  have := Int.ediv_le_ediv (show 0 < p by omega) (show -b ≤ -a by omega)
  omega
theorem upS_mono {ps : List Int} {a b : Int} (h : ∀ p ∈ ps, 1 ≤ p ∧ p ≤ 9) (hab : a ≤ b) : upS ps a ≤ upS ps b := by
  unfold upS
  induction ps with
  | nil => exact Int.le_refl _
  | cons p ps ih =>
    have h1 := ih fun q hq => h q (List.mem_cons_of_mem _ hq)
    have h2 := up_mono (h p List.mem_cons_self).1 hab
    simp only [List.map_cons, List.sum_cons]
    omega
theorem upS_nn {ps : List Int} {a : Int} (h : ∀ p ∈ ps, 1 ≤ p ∧ p ≤ 9) (ha : 0 ≤ a) : 0 ≤ upS ps a := by
  unfold upS
  induction ps with
  | nil => exact Int.le_refl _
  | cons p ps ih =>
    have h1 := ih fun q hq => h q (List.mem_cons_of_mem _ hq)
    have h2 := up_mono (h p List.mem_cons_self).1 ha
    simp only [List.map_cons, List.sum_cons]
    have : -(-(0 : Int) / p) = 0 := by simp
    omega
theorem share_nn {ps : List Int} (h : ∀ p ∈ ps, 1 ≤ p ∧ p ≤ 9) : 0 ≤ shareS ps := by
  unfold shareS
  induction ps with
  | nil => exact Int.le_refl _
  | cons p ps ih =>
    have h1 := ih fun q hq => h q (List.mem_cons_of_mem _ hq)
    have h2 := Int.ediv_nonneg (show (0 : Int) ≤ 2520 by decide) (show 0 ≤ p by have := (h p List.mem_cons_self).1; omega)
    simp only [List.map_cons, List.sum_cons]
    omega
/-- a number of coins that is enough -/
theorem laid_some {ps : List Int} {l : Int} (h : ∀ p ∈ ps, 1 ≤ p ∧ p ≤ 9) (hs : shareS ps < 2520) (l0 : 0 ≤ l) : upS ps (l + (shareS ps * (l + 1) + 2520 * ps.length) + 1) ≤ shareS ps * (l + 1) + 2520 * ps.length := by
  have h1 := (upS_w (m := l + (shareS ps * (l + 1) + 2520 * ps.length) + 1) h).2
  have s0 := share_nn h
  generalize shareS ps = s at hs s0 h1 ⊢
  have b0 : 0 ≤ s * (l + 1) + 2520 * ps.length := Int.add_nonneg (Int.mul_nonneg s0 (by omega)) (by omega)
  have e1 : s * (l + (s * (l + 1) + 2520 * ps.length) + 1) = s * (l + 1) + s * (s * (l + 1) + 2520 * ps.length) := by
    rw [← Int.mul_add]; congr 1; omega
  rw [e1] at h1
  generalize hB : s * (l + 1) + 2520 * ps.length = B at h1 b0 ⊢
  have h2 : s * B ≤ 2519 * B := Int.mul_le_mul_of_nonneg_right (by omega) b0
  omega
/-- no number below the first guess is enough -/
theorem laid_first {ps : List Int} {l y : Int} (h : ∀ p ∈ ps, 1 ≤ p ∧ p ≤ 9) (hs : shareS ps < 2520) (hy : upS ps (l + y + 1) ≤ y) : -(-shareS ps * (l + 1) / (2520 - shareS ps)) ≤ y := by
  have h1 := (upS_w (m := l + y + 1) h).1
  generalize shareS ps = s at hs h1 ⊢
  have e1 : s * (l + y + 1) = s * (l + 1) + s * y := by rw [← Int.mul_add]; congr 1; omega
  rw [e1] at h1
  have h2 : -y ≤ -s * (l + 1) / (2520 - s) := by
    refine (Int.le_ediv_iff_mul_le (by omega)).mpr ?_
    have e2 : -y * (2520 - s) = -(2520 * y) + s * y := by rw [Int.mul_sub, Int.neg_mul, Int.neg_mul, Int.mul_comm y s, Int.mul_comm y 2520]; omega
    rw [e2, Int.neg_mul]
    omega
  omega
theorem wp_fewest (ds : List D) (Q : T → Prop) (Qx : Xn → Prop) (h : sp_fewest ds Q Qx) : cd_fewest ((ds.map fun d => some (T.v d)) ++ List.replicate (6 - ds.length) none) { nx := fun _ => Q (.v .non), rt := fun r _ => Q r, ex := fun x _ => Qx x } := by
  obtain ⟨ps, l, rfl, hp, hl, hs, l0, q⟩ := h
  change cd_fewest [some (.v (.lst (ps.map D.int))), some (.v (.int l)), none, none, none, none] _
  unfold cd_fewest
  ((try dsimp only); rw [sSeq_def]; simp only [sSet, wFrz, wB, aCons, wLc, iVal, wVar, slot, T.d_v, aNil, walkW_l])
  refine lcP_map ps D.int (fun p => .int (2520 / p)) (by omega) (fun p hpm P1 h1 => ?_) ?_
  · obtain ⟨p1, p9⟩ := hp p hpm
    simp only [gName, wCallS, aCons, wVar, wipeR, List.set_cons_succ, List.set_cons_zero, slot, aNil, T.d_v]
    refine ⟨p, rfl, by omega, ?_⟩
    rw [show max p 1 = p by omega]
    exact h1 _ rfl
  rw [show ps.map (fun p => D.int (2520 / p)) = (ps.map fun p => 2520 / p).map D.int by rw [List.map_map]; rfl]
  simp only [lst_vd, wipeR, List.set_cons_succ, List.set_cons_zero, restR_cons, slot, keepV_n, restR_nil, bSum_l, T.d_v]
  refine ⟨_, rfl, ?_⟩
  rw [show (ps.map fun p => 2520 / p).sum = shareS ps from rfl]
  have s0 := share_nn hp
  have hB := laid_some hp hs l0
  have hF : ∀ y, upS ps (l + y + 1) ≤ y → -(-shareS ps * (l + 1) / (2520 - shareS ps)) ≤ y := fun y hy => laid_first hp hs hy
  have hF0 : 0 ≤ -(-shareS ps * (l + 1) / (2520 - shareS ps)) := by
    have h1 : 0 ≤ shareS ps * (l + 1) := Int.mul_nonneg s0 (by omega)
    have h2 : -shareS ps * (l + 1) / (2520 - shareS ps) ≤ 0 := by
      refine Int.ediv_nonpos_of_nonpos_of_neg (by rw [Int.neg_mul]; omega) (by omega)
    omega
  ((try dsimp only); rw [sSeq_def]; simp only [sSet, wFrz, wNeg, wBin, wVar, slot, T.v.injEq, D.int.injEq, wD, T.d_v, List.set_cons_succ, List.set_cons_zero, binW_s, binW_ai, binW_m, binW_d, exists_eq_left'])
  refine ⟨.inl (.inl ⟨by omega, by omega⟩), .inl ⟨by omega, by omega⟩, ?_⟩
  generalize -(-shareS ps * (l + 1) / (2520 - shareS ps)) = x at hF hF0
  have hsum : ∀ x : Int, ((ps.map fun p => -(-(l + x + 1) / p)).sum) = upS ps (l + x + 1) := fun x => rfl
  ((try dsimp only); rw [sSeq_def]; simp only [sSet, wFrz, wB, aCons, wLc, iVal, wVar, slot, T.d_v, aNil, walkW_l])
  refine lcP_map ps D.int (fun p => .int (-(-(l + x + 1) / p))) (by omega) (fun p hpm P1 h1 => ?_) ?_
  · obtain ⟨p1, p9⟩ := hp p hpm
    simp only [gName, wNeg, wBin, wVar, wipeR, List.set_cons_succ, List.set_cons_zero, slot, T.d_v, wD, binW_d, T.v.injEq, D.int.injEq, exists_eq_left', binW_ai]
    exact ⟨.inl ⟨by omega, by omega⟩, h1 _ rfl⟩
  rw [show ps.map (fun p => D.int (-(-(l + x + 1) / p))) = (ps.map fun p => -(-(l + x + 1) / p)).map D.int by rw [List.map_map]; rfl]
  simp only [lst_vd, wipeR, List.set_cons_succ, List.set_cons_zero, restR_cons, slot, keepV_n, restR_nil, bSum_l, T.d_v]
  refine ⟨_, rfl, ?_⟩
  rw [hsum]
  generalize hBB : shareS ps * (l + 1) + 2520 * (ps.length : Int) = B at hB
  have B0 : 0 ≤ B := by
    have := hF _ hB
    omega
  ((try dsimp only); rw [sSeq_def]; simp only [])
  refine ⟨fun m ρ => ∃ y : Int, ρ = [some (.v (.lst (ps.map D.int))), some (.v (.int l)), some (.v (.int (shareS ps))), none, some (.v (.int y)), some (.v (.int (upS ps (l + y + 1))))] ∧ 0 ≤ y ∧ (∀ z, 0 ≤ z → upS ps (l + z + 1) ≤ z → y ≤ z) ∧ (B - y).toNat = m, (B - x).toNat, ⟨x, rfl, hF0, fun z _ hz => hF z hz, rfl⟩, ?_⟩
  rintro m ρ ⟨y, rfl, y0, yl, rfl⟩
  simp only [tVal, wCmp, wVar, slot, T.d_v, T.v.injEq, D.bl.injEq, exists_eq_left', cmpW_gt, gtW_i]
  refine ⟨fun e => ?_, fun e => ?_⟩
  · have e : y < upS ps (l + y + 1) := of_decide_eq_true e
    ((try dsimp only); rw [sSeq_def]; simp only [sSet, wFrz, wVar, slot, T.d_v, List.set_cons_succ, List.set_cons_zero])
    ((try dsimp only); rw [sSeq_def]; simp only [sSet, wFrz, wB, aCons, wLc, iVal, wVar, slot, T.d_v, aNil, sNil, walkW_l])
    refine lcP_map ps D.int (fun p => .int (-(-(l + upS ps (l + y + 1) + 1) / p))) (by omega) (fun p hpm P1 h1 => ?_) ?_
    · obtain ⟨p1, p9⟩ := hp p hpm
      simp only [gName, wNeg, wBin, wVar, wipeR, List.set_cons_succ, List.set_cons_zero, slot, T.d_v, wD, binW_d, T.v.injEq, D.int.injEq, exists_eq_left', binW_ai]
      exact ⟨.inl ⟨by omega, by omega⟩, h1 _ rfl⟩
    rw [show ps.map (fun p => D.int (-(-(l + upS ps (l + y + 1) + 1) / p))) = (ps.map fun p => -(-(l + upS ps (l + y + 1) + 1) / p)).map D.int by rw [List.map_map]; rfl]
    simp only [lst_vd, wipeR, List.set_cons_succ, List.set_cons_zero, restR_cons, slot, keepV_n, restR_nil, List.cons.injEq, Option.some.injEq, T.v.injEq, D.int.injEq, and_true, true_and, bSum_l, T.d_v]
    refine ⟨_, rfl, ?_⟩
    rw [hsum]
    have hy2 : ∀ z, 0 ≤ z → upS ps (l + z + 1) ≤ z → upS ps (l + y + 1) ≤ z := fun z z0 hz => Int.le_trans (upS_mono hp (by have := yl z z0 hz; omega)) hz
    have := hy2 B B0 hB
    exact ⟨(B - upS ps (l + y + 1)).toNat, by omega, _, ⟨rfl, rfl⟩, by omega, hy2, rfl⟩
  · have e : ¬ y < upS ps (l + y + 1) := of_decide_eq_false e
    ((try dsimp only); rw [sSeq_def]; simp only [sRet, wVar, slot])
    exact q y ⟨y0, by omega, yl⟩
theorem ln_fewest : ∀ ds Q Qx, sp_fewest ds Q Qx → ds.length = 2 := by rintro ds Q Qx ⟨ps, l, rfl, _⟩; rfl
end Vl
end
section
set_option maxRecDepth 100000
namespace Vl
open PySem L2
def cd_plain_at : WS :=
  sSeq (sSet 4 (wFrz (wLc [5, 6] (iVals' (wVar 0)) (gTup (gCons (gName 5) (gCons (gName 6) (gNil)))) (tYes) (wCmp .GtE (wIx (wVar 1) (wVar 6)) (wIx (wVar 1) (wVar 2))))))
  (sSeq (sSet 7 (wFrz (wCallS (sp_fewest) (aCons (wLc [8, 9, 5] (iEnuV (wVar 0)) (gTup (gCons (gName 8) (gCons (gTup (gCons (gName 9) (gCons (gName 5) (gNil)))) (gNil)))) (tVal (wIx (wVar 4) (wVar 8))) (wVar 9)) (aCons (wVar 3) (aNil))))))
  (sSeq (sSet 10 (wFrz (wLc [8, 9, 5] (iEnuV (wVar 0)) (gTup (gCons (gName 8) (gCons (gTup (gCons (gName 9) (gCons (gName 5) (gNil)))) (gNil)))) (tYes) (wIf' (tVal (wIx (wVar 4) (wVar 8))) (wNeg (wBin .FloorDiv (wNeg (wBin .Add (wBin .Add (wVar 3) (wVar 7)) (wD (.int 1)))) (wVar 9))) (wD (.int 0))))))
  (sSeq (sRet (wTuple (wVar 10)))
  (sNil))))
def rkF (n : Int) (as : List Arw) (p : Int) : Int := (rankF n as p).getD 0
/-- the rank does not fall there -/
def wonB (n : Int) (as : List Arw) (p : Int) (a : Arw) : Bool := decide (rkF n as p ≤ rkF n as a.2.2.2)
def wonL (n : Int) (as : List Arw) (p : Int) : List Int := ((stepsOf as p).filter (wonB n as p)).map (·.2.2.1)
def layP (n : Int) (as : List Arw) (p l x : Int) : List Int := (stepsOf as p).map fun a => if wonB n as p a = true then -(-(l + x + 1) / a.2.2.1) else 0
/-- ranks are known here -/
def RkOk (n : Int) (as : List Arw) (p : Int) : Prop := (∃ r, rankF n as p = some r) ∧ ∀ a ∈ stepsOf as p, ∃ r, rankF n as a.2.2.2 = some r
def sp_plain_at : Sp := fun ds Q _ => ∃ (n : Int) (as : List Arw) (p l : Int), ds = [.dic (wayD as p), .tup (rankD n as), .int p, .int l] ∧ Good n as ∧ 0 ≤ p ∧ p < n ∧ RkOk n as p ∧ 0 ≤ l ∧ ∀ x, LaidOk (wonL n as p) l x → Q (.v (.tup ((layP n as p l x).map D.int)))
theorem rank_atP {n : Int} {as : List Arw} {q r : Int} (q0 : 0 ≤ q) (q1 : q < n) (h : rankF n as q = some r) : atI (rankD n as) q = some (.int (rkF n as q)) := by
  have := at_nat (xs := rankD n as) (i := q.toNat) (x := .int (rkF n as q)) (by
    unfold rankD rngI
    rw [List.getElem?_map, List.getElem?_map, List.getElem?_range (by omega)]
    show some (optD (rankF n as ((q.toNat : Nat) : Int))) = _
    rw [show ((q.toNat : Nat) : Int) = q by omega]
    unfold rkF
    rw [h]
    rfl)
  rwa [show ((q.toNat : Nat) : Int) = q by omega] at this
theorem won_share {n : Int} {as : List Arw} {p : Int} (ok : Good n as) (p0 : 0 ≤ p) (p1 : p < n) (hr : RkOk n as p) : (∀ x ∈ wonL n as p, 1 ≤ x ∧ x ≤ 9) ∧ (wonL n as p).length ≤ 60 ∧ shareS (wonL n as p) < 2520 := by
  obtain ⟨⟨r, hp⟩, ha⟩ := hr
  obtain ⟨s, hs, e1, hsh⟩ := turn_some hp
  obtain ⟨_, hlt⟩ := shortL_mem.mp hsh
  have hw : (stepsOf as p).filter (fun a => decide (a.2.2.2 ∈ leftF n (turnF n as s))) = (stepsOf as p).filter (wonB n as p) := List.filter_congr fun a haS => by
    obtain ⟨r2, h2⟩ := ha a haS
    have ao := ok.ok a (steps_sub haS).1
    unfold wonB rkF
    rw [hp, h2]
    show _ = decide (r ≤ r2)
    refine decide_eq_decide.mpr ?_
    rw [leftF_mem]
    constructor
    · rintro ⟨_, h3⟩
      refine Classical.byContradiction fun z => ?_
      obtain ⟨s2, hs2, e2, hsh2⟩ := turn_some h2
      have h4 : turnF n as (s2 + 1) a.2.2.2 = some r2 := by
        rw [turnF, if_pos hsh2, e2]
      have h5 := turn_keep h4 (s - (s2 + 1))
      rw [show s2 + 1 + (s - (s2 + 1)) = s by omega] at h5
      rw [h5] at h3
      cases h3
    · intro h3
      refine ⟨⟨ao.t0, ao.t1⟩, ?_⟩
      cases h4 : turnF n as s a.2.2.2 with
      | none => rfl
      | some r3 =>
        obtain ⟨s3, hs3, e3, _⟩ := turn_some h4
        have h5 := turn_keep h4 (n.toNat + 1 - s)
        rw [show s + (n.toNat + 1 - s) = n.toNat + 1 by omega] at h5
        have h2 : turnF n as (n.toNat + 1) a.2.2.2 = some r2 := h2
        rw [h5] at h2
        cases h2
        omega
  unfold inS at hlt
  rw [hw] at hlt
  have hnn : ∀ L : List Arw, 0 ≤ (L.map fun a => 2520 / max a.2.2.1 1).sum := fun L => by
    induction L with
    | nil => exact Int.le_refl _
    | cons b L ih =>
      have : 0 ≤ 2520 / max b.2.2.1 1 := Int.ediv_nonneg (by decide) (by omega)
      rw [List.map_cons, List.sum_cons]
      omega
  have hpay : ∀ a ∈ (stepsOf as p).filter (wonB n as p), 2 ≤ a.2.2.1 ∧ a.2.2.1 ≤ 9 := fun a haW => by
    have ao := ok.ok a (steps_sub (List.mem_filter.mp haW).1).1
    have a1 := ao.p1
    refine ⟨Classical.byContradiction fun z => ?_, by omega⟩
    have e : 2520 / max a.2.2.1 1 = 2520 := by rw [show max a.2.2.1 1 = 1 by omega]; rfl
    obtain ⟨l1, l2, e2⟩ := List.append_of_mem haW
    rw [e2, List.map_append, List.map_cons, List.sum_append, List.sum_cons, e] at hlt
    have := hnn l1
    have := hnn l2
    omega
  refine ⟨fun x hx => ?_, ?_, ?_⟩
  · unfold wonL at hx
    obtain ⟨a, haW, rfl⟩ := List.mem_map.mp hx
    have := hpay a haW
    omega
  · unfold wonL
    rw [List.length_map]
    have := List.length_filter_le (wonB n as p) (stepsOf as p)
    have := steps_len as p
    have := ok.l2
    omega
  · unfold shareS wonL
    rw [List.map_map]
    have : ((stepsOf as p).filter (wonB n as p)).map ((fun p => 2520 / p) ∘ fun a : Arw => a.2.2.1) = ((stepsOf as p).filter (wonB n as p)).map fun a => 2520 / max a.2.2.1 1 := List.map_congr_left fun a haW => by
      have := hpay a haW
      show 2520 / a.2.2.1 = _
      rw [show max a.2.2.1 1 = a.2.2.1 by omega]
    rw [this]
    exact hlt
theorem way_valsP {as : List Arw} {p : Int} : (wayD as p).map (·.2) = (stepsOf as p).map fun a => D.tup [.int a.2.2.1, .int a.2.2.2] := by
  unfold wayD
  rw [List.map_map]
  rfl
theorem way_enumP {as : List Arw} {p : Int} : (wayD as p).zipIdx.map (fun q => D.tup [.int (q.2 : Nat), q.1.2]) = (stepsOf as p).zipIdx.map fun q => D.tup [.int (q.2 : Nat), .tup [.int q.1.2.2.1, .int q.1.2.2.2]] := by
  unfold wayD
  rw [List.zipIdx_map, List.map_map]
  rfl
theorem won_enum {α β : Type} {f : α → Bool} {g : α → β} {L : List α} : ((L.zipIdx.filter fun q => f q.1).map fun q => g q.1) = (L.filter f).map g := by
  have h : ∀ (L : List α) (k : Nat), (((L.zipIdx k).filter fun q => f q.1).map fun q => g q.1) = (L.filter f).map g := by
    intro L
    induction L with
    | nil => intro k; rfl
    | cons a L ih =>
      intro k
      rw [List.zipIdx_cons, List.filter_cons, List.filter_cons]
      cases e : f a with
      | true => simp [ih, e]
      | false => simp [ih, e]
  exact h L 0
theorem map_enum {α β : Type} {g : α → β} {L : List α} : (L.zipIdx.map fun q => g q.1) = L.map g := by
  have h : ∀ (L : List α) (k : Nat), ((L.zipIdx k).map fun q => g q.1) = L.map g := by
    intro L
    induction L with
    | nil => intro k; rfl
    | cons a L ih => intro k; rw [List.zipIdx_cons, List.map_cons, List.map_cons, ih]
  exact h L 0
theorem wp_plain_at (ds : List D) (Q : T → Prop) (Qx : Xn → Prop) (h : sp_plain_at ds Q Qx) : cd_plain_at ((ds.map fun d => some (T.v d)) ++ List.replicate (11 - ds.length) none) { nx := fun _ => Q (.v .non), rt := fun r _ => Q r, ex := fun x _ => Qx x } := by
  obtain ⟨n, as, p, l, rfl, ok, p0, p1, hr, l0, q⟩ := h
  change cd_plain_at [some (.v (.dic (wayD as p))), some (.v (.tup (rankD n as))), some (.v (.int p)), some (.v (.int l)), none, none, none, none, none, none, none] _
  unfold cd_plain_at
  have sl := steps_len as p
  have l2 := ok.l2
  obtain ⟨w1, w2, w3⟩ := won_share ok p0 p1 hr
  obtain ⟨⟨r, hp⟩, ha⟩ := hr
  have hatp := rank_atP p0 p1 hp
  have hata : ∀ a ∈ stepsOf as p, atI (rankD n as) a.2.2.2 = some (.int (rkF n as a.2.2.2)) := fun a haS => by
    have ao := ok.ok a (steps_sub haS).1
    obtain ⟨r2, h2⟩ := ha a haS
    exact rank_atP ao.t0 ao.t1 h2
  generalize hRD : D.tup (rankD n as) = RD
  unfold iEnuV
  ((try dsimp only); (try simp only [wVar, T.d_v]); rw [sSeq_def]; simp only [sSet, wFrz, wLc, iVals', wVar, slot, T.d_v])
  rw [way_valsP]
  refine lcP_map (stepsOf as p) (fun a => D.tup [.int a.2.2.1, .int a.2.2.2]) (fun a => .bl (wonB n as p a)) (by omega) (fun a haS P1 h1 => ?_) ?_
  · simp only [wipeR, List.set_cons_succ, List.set_cons_zero, wCmp, wIx, wVar, T.d_v, cmpW_ge, gTup_t, gCons_c, gName, gNil_n, slot]
    rw [← hRD]
    simp only [ixW_t]
    refine ⟨_, hata a haS, ?_⟩
    refine ⟨_, hatp, ?_⟩
    subst hRD
    exact h1 _ rfl
  have hwon : ∀ q ∈ (stepsOf as p).zipIdx, atI ((stepsOf as p).map fun a => D.bl (wonB n as p a)) (q.2 : Nat) = some (.bl (wonB n as p q.1)) := fun q hq => by
    obtain ⟨i, hi⟩ := List.mem_iff_getElem?.mp hq
    rw [List.getElem?_zipIdx] at hi
    obtain ⟨a, ha2, e⟩ := Option.map_eq_some_iff.mp hi
    rw [← e]
    exact at_nat (by rw [List.getElem?_map, show 0 + i = i by omega, ha2]; rfl)
  generalize hWD : (stepsOf as p).map (fun a => D.bl (wonB n as p a)) = WD at hwon
  simp only [wipeR, List.set_cons_succ, List.set_cons_zero, restR_cons, slot, keepV_n, restR_nil, lst_vd]
  ((try dsimp only); rw [sSeq_def]; simp only [sSet, wFrz, wCallS, aCons, wLc, slot, wVar, aNil, T.d_v])
  rw [way_enumP]
  refine lcP_fm (stepsOf as p).zipIdx (fun q : Arw × Nat => D.tup [.int (q.2 : Nat), .tup [.int q.1.2.2.1, .int q.1.2.2.2]]) (fun q => wonB n as p q.1) (fun q => .int q.1.2.2.1) (by rw [List.length_zipIdx]; omega) (fun q hq P1 P0 h1 h0 => ?_) ?_
  · simp only [wipeR, List.set_cons_succ, List.set_cons_zero, tVal, wIx, wVar, T.d_v, T.v.injEq, gTup_t, gCons_c, gName, gNil_n, slot, ixW_l]
    refine ⟨_, hwon q hq, ?_⟩
    simp only [D.bl.injEq, exists_eq_left']
    exact ⟨fun e => h1 _ rfl e, fun e => h0 _ rfl e⟩
  rw [show ((stepsOf as p).zipIdx.filter fun q => wonB n as p q.1).map (fun q => D.int q.1.2.2.1) = (wonL n as p).map D.int by
    unfold wonL
    rw [List.map_map]
    exact won_enum (f := wonB n as p) (g := fun a : Arw => D.int a.2.2.1)]
  simp only [wipeR, List.set_cons_succ, List.set_cons_zero, restR_cons, slot, keepV_n, restR_nil, lst_vd]
  refine ⟨wonL n as p, l, rfl, w1, w2, w3, l0, fun x hx => ?_⟩
  replace q := q x hx
  have hpay : ∀ a ∈ stepsOf as p, wonB n as p a = true → 1 ≤ a.2.2.1 ∧ a.2.2.1 ≤ 9 := fun a haS e => w1 _ (by
    unfold wonL
    exact List.mem_map_of_mem (List.mem_filter.mpr ⟨haS, e⟩))
  ((try dsimp only); (try simp only [T.d_v]); rw [sSeq_def]; simp only [sSet, wFrz, wLc, slot])
  rw [way_enumP]
  refine lcP_map (stepsOf as p).zipIdx (fun q : Arw × Nat => D.tup [.int (q.2 : Nat), .tup [.int q.1.2.2.1, .int q.1.2.2.2]]) (fun q => .int (if wonB n as p q.1 = true then -(-(l + x + 1) / q.1.2.2.1) else 0)) (by rw [List.length_zipIdx]; omega) (fun q hq P1 h1 => ?_) ?_
  · have hqm : q.1 ∈ stepsOf as p := by
      obtain ⟨i, hi⟩ := List.mem_iff_getElem?.mp hq
      rw [List.getElem?_zipIdx] at hi
      obtain ⟨a, ha2, e⟩ := Option.map_eq_some_iff.mp hi
      rw [← e]
      exact List.mem_of_getElem? ha2
    simp only [wipeR, List.set_cons_succ, List.set_cons_zero, wIf', tVal, wIx, wVar, T.d_v, T.v.injEq, wNeg, wBin, wD, gTup_t, gCons_c, gName, gNil_n, slot, binW_d, D.int.injEq, exists_eq_left', binW_ai, ixW_l]
    refine ⟨_, hwon q hq, ?_⟩
    simp only [D.bl.injEq, exists_eq_left']
    refine ⟨fun e => ?_, fun e => ?_⟩
    · obtain ⟨y1, y9⟩ := hpay q.1 hqm e
      rw [if_pos e] at h1
      exact ⟨.inl ⟨by omega, by omega⟩, h1 _ rfl⟩
    · rw [if_neg (by rw [e]; decide)] at h1
      exact h1 _ rfl
  rw [show (stepsOf as p).zipIdx.map (fun q => D.int (if wonB n as p q.1 = true then -(-(l + x + 1) / q.1.2.2.1) else 0)) = (layP n as p l x).map D.int by
    unfold layP
    rw [List.map_map]
    exact map_enum (g := fun a : Arw => D.int (if wonB n as p a = true then -(-(l + x + 1) / a.2.2.1) else 0))]
  simp only [wipeR, List.set_cons_succ, List.set_cons_zero, restR_cons, slot, keepV_n, restR_nil, lst_vd]
  ((try dsimp only); rw [sSeq_def]; simp only [sRet, wTuple, wVar, slot, T.d_v])
  exact q
theorem ln_plain_at : ∀ ds Q Qx, sp_plain_at ds Q Qx → ds.length = 4 := by rintro ds Q Qx ⟨n, as, p, l, rfl, _⟩; rfl
end Vl
end
section
set_option maxRecDepth 100000
namespace Vl
open PySem L2
end Vl
end
section
set_option maxRecDepth 100000
namespace Vl
open PySem L2
end Vl
end
section
set_option maxRecDepth 100000
namespace Vl
open PySem L2
theorem rk_ok {n p : Int} {as : List Arw} (ok : Good n as) (p0 : 0 ≤ p) (p1 : p < n) (h : ¬ Rch as (leftF n (rankF n as)) p) : RkOk n as p := by
  have h1 : ∀ q : Int, 0 ≤ q → q < n → ¬ Rch as (leftF n (rankF n as)) q → ∃ r, rankF n as q = some r := fun q q0 q1 hq => by
    cases e : rankF n as q with
    | some r => exact ⟨r, rfl⟩
    | none => exact absurd (Rch.here (leftF_mem.mpr ⟨⟨q0, q1⟩, e⟩)) hq
  refine ⟨h1 p p0 p1 h, fun a ha => ?_⟩
  obtain ⟨hm, e⟩ := steps_sub ha
  have ao := ok.ok a hm
  refine h1 _ ao.t0 ao.t1 fun z => h ?_
  rw [← e]
  exact Rch.step hm z
end Vl
end
section
set_option maxRecDepth 100000
namespace Vl
open PySem L2
def cd_plstakeR (C : Addr) (C_NoPlace : Addr) (C_NoCoins : Addr) (C_NotHopeful : Addr) : WS :=
  sSeq (sExpr (wCallS (sp_chkhopeR C C_NoPlace C_NotHopeful) (aCons (wVar 0) (aCons (wVar 1) (aNil)))))
  (sSeq (sExpr (wCallS (sp_chkcoinsR C C_NoCoins) (aCons (wVar 2) (aNil))))
  (sSeq (sRet (wCallS (sp_plain_at) (aCons (wIx (wCall (R_ways_of C) (aCons (wVar 0) (aNil))) (wVar 1)) (aCons (wCallS (sp_ranks C) (aCons (wVar 0) (aNil))) (aCons (wVar 1) (aCons (wVar 2) (aNil)))))))
  (sNil)))
def sp_plstakeR (C C_NoPlace C_NoCoins C_NotHopeful : Addr) : Sp := fun ds Q Qx => ∃ (n : Int) (as : List Arw) (d l : D), ds = [trD C n as, d, l] ∧ Good n as ∧ d.okC C ∧ l.okC C ∧ HpQ n as C_NoPlace C_NotHopeful d Qx fun _ => (coinsB l = false → Qx ⟨C_NoCoins, []⟩) ∧ (coinsB l = true → ∀ t, Q t)
theorem wp_plstakeR (C : Addr) (C_NoPlace : Addr) (C_NoCoins : Addr) (C_NotHopeful : Addr) (ds : List D) (Q : T → Prop) (Qx : Xn → Prop) (h : sp_plstakeR C C_NoPlace C_NoCoins C_NotHopeful ds Q Qx) : cd_plstakeR C C_NoPlace C_NoCoins C_NotHopeful ((ds.map fun d => some (T.v d)) ++ List.replicate (3 - ds.length) none) { nx := fun _ => Q (.v .non), rt := fun r _ => Q r, ex := fun x _ => Qx x } := by
  obtain ⟨n, as, d, l, rfl, ok, okd, okl, q0, q1⟩ := h
  change cd_plstakeR C C_NoPlace C_NoCoins C_NotHopeful [some (.v (trD C n as)), some (.v d), some (.v l)] _
  unfold cd_plstakeR
  have n1 := ok.n1
  have n2 := ok.n2
  ((try dsimp only); rw [sSeq_def]; simp only [sExpr, wCallS, aCons, wVar, slot, aNil, T.d_v])
  refine ⟨n, as, d, rfl, ok, okd, q0, fun p e p0 p1 => ⟨fun hh => ?_, (q1 p e p0 p1).2⟩⟩
  have q2 := (q1 p e p0 p1).1 hh
  subst e
  ((try dsimp only); rw [sSeq_def]; simp only [sExpr, wCallS, aCons, wVar, slot, aNil, T.d_v])
  refine ⟨l, rfl, okl, fun e => ?_, q2.1⟩
  have q3 := q2.2 e
  obtain ⟨li, rfl, l0⟩ : ∃ i : Int, l = .int i ∧ 0 ≤ i := by
    cases l with
    | int i => exact ⟨i, rfl, of_decide_eq_true e⟩
    | _ => cases e
  ((try dsimp only); rw [sSeq_def]; simp only [sRet, wCallS, aCons, wIx, wCall, wVar, slot, aNil, T.d_v, List.map_cons, List.map_nil])
  refine ⟨n, as, rfl, ok, ?_⟩
  have hat : atI (waysD n as) p = some (.dic (wayD as p)) := by
    have := at_nat (xs := waysD n as) (i := p.toNat) (x := .dic (wayD as p)) (by
      unfold waysD
      rw [List.getElem?_map, List.getElem?_range (by omega)]
      show some (D.dic (wayD as ((p.toNat : Nat) : Int))) = _
      rw [show ((p.toNat : Nat) : Int) = p by omega])
    rwa [show ((p.toNat : Nat) : Int) = p by omega] at this
  simp only [waysT_d, ixW_l]
  refine ⟨_, hat, n, as, rfl, ok, ?_⟩
  simp only [T.d_v]
  exact ⟨n, as, p, li, rfl, ok, p0, p1, rk_ok ok p0 p1 hh, l0, fun x hx => q3 _⟩
theorem ln_plstakeR (C : Addr) (C_NoPlace : Addr) (C_NoCoins : Addr) (C_NotHopeful : Addr) : ∀ ds Q Qx, sp_plstakeR C C_NoPlace C_NoCoins C_NotHopeful ds Q Qx → ds.length = 3 := by rintro ds Q Qx ⟨n, as, d, l, rfl, _⟩; rfl
end Vl
end
section
set_option maxRecDepth 100000
namespace Vl
open PySem L2
end Vl
end
section
set_option maxRecDepth 100000
namespace Vl
open PySem L2
theorem lay_sum {n : Int} {as : List Arw} {p l x : Int} : (layP n as p l x).sum = upS (wonL n as p) (l + x + 1) := by
  unfold layP upS wonL
  generalize stepsOf as p = S
  induction S with
  | nil => rfl
  | cons a S ih =>
    rw [List.map_cons, List.sum_cons, ih, List.filter_cons]
    cases e : wonB n as p a with
    | true =>
      rw [if_pos rfl, if_pos rfl, List.map_cons, List.map_cons, List.sum_cons]
    | false =>
      rw [if_neg (by decide), if_neg (by decide), Int.zero_add]
end Vl
end
section
set_option maxRecDepth 100000
namespace Vl
open PySem L2
theorem laid_eq {ps : List Int} {l x : Int} (hp : ∀ p ∈ ps, 1 ≤ p ∧ p ≤ 9) (l0 : 0 ≤ l) (h : LaidOk ps l x) : upS ps (l + x + 1) = x := by
  have h1 := h.ok
  have x0 := h.nn
  have h2 := upS_nn (a := l + x + 1) hp (by omega)
  refine Classical.byContradiction fun z => ?_
  have h3 := h.lo (x - 1) (by omega) (by
    rw [show l + (x - 1) + 1 = l + x by omega]
    have := upS_mono (a := l + x) (b := l + x + 1) hp (by omega)
    omega)
  omega
end Vl
end
section
set_option maxRecDepth 100000
namespace Vl
open PySem L2
end Vl
end
section
set_option maxRecDepth 100000
namespace Vl
open PySem L2
end Vl
end
section
set_option maxRecDepth 100000
namespace Vl
open PySem L2
end Vl
end
section
set_option maxRecDepth 100000
namespace Vl
open PySem L2
/-- sorted by the first numbers that differ -/
def leT (a b : List Int) : Bool := !ltK (b.map Sum.inl) (a.map Sum.inl)
theorem leT_trans (a b c : List Int) (h1 : leT a b = true) (h2 : leT b c = true) : leT a c = true := by
  unfold leT at *
  rw [Bool.not_eq_true'] at *
  exact lex_down h1 h2
theorem leT_total (a b : List Int) : (leT a b || leT b a) = true := by
  unfold leT
  cases h : ltK (b.map Sum.inl) (a.map Sum.inl) with
  | false => rfl
  | true =>
    have : ltK (a.map Sum.inl) (b.map Sum.inl) = false := lex_asym h
    rw [this]; rfl
theorem sortT_ex (ks : List (List Int)) : ∃ ms : List (List Int), ms.Perm ks ∧ ms.Pairwise fun a b => leT a b = true :=
  ⟨ks.mergeSort leT, List.mergeSort_perm ks leT, List.pairwise_mergeSort leT_trans leT_total ks⟩
theorem tupI_tK (xs : List Int) : tupI xs = tK (xs.map Sum.inl) := by
  unfold tupI tK
  rw [List.map_map]
  rfl
theorem shK_ints (xs : List Int) : ShK (fun _ => false) 0 (xs.map Sum.inl) := fun j y h => by
  rw [List.getElem?_map] at h
  cases e : xs[j]? with
  | none => rw [e] at h; cases h
  | some x => rw [e] at h; cases h; rfl
end Vl
end
section
set_option maxRecDepth 100000
namespace Vl
open PySem L2
/-- what was lost by the worst way to each place, all that is ever laid paid of c -/
structure PlOk (n : Int) (as : List Arw) (p c : Int) (L : Int → Int) : Prop where
  nn : ∀ q, Reach as p q → 0 ≤ L q
  le : ∀ q, Reach as p q → ∀ x, LaidOk (wonL n as q) (L q) x → L q + x ≤ c
  dn : ∀ q, Reach as p q → ∀ a ∈ stepsOf as q, rkF n as a.2.2.2 < rkF n as q → ∀ x, LaidOk (wonL n as q) (L q) x → L q + x ≤ L a.2.2.2
def nearI (n : Int) (as : List Arw) (x : Int) : List Int := [-rkF n as x, x]
theorem near_le {n : Int} {as : List Arw} {x y : Int} (h : leT (nearI n as x) (nearI n as y) = true) : rkF n as y ≤ rkF n as x := by
  refine Classical.byContradiction fun z => ?_
  unfold leT at h
  rw [Bool.not_eq_true'] at h
  have : ltK ((nearI n as y).map Sum.inl) ((nearI n as x).map Sum.inl) = true := by
    unfold ltK nearI
    simp only [List.map_cons, List.map_nil, kI]
    rw [PyProof.Rows.lex_cons]
    have : PyProof.Rows.itemOrd.blt (.inl (-rkF n as y)) (.inl (-rkF n as x)) = true := by show decide (-rkF n as y < -rkF n as x) = true; exact decide_eq_true (by omega)
    rw [this]; rfl
  rw [this] at h
  cases h
theorem near_list {n : Int} {as : List Arw} {ms : List Int} {M : List (List Int)} (h : M.Perm (ms.map (nearI n as))) (hs : M.Pairwise fun a b => leT a b = true) : ∃ zs : List Int, M = zs.map (nearI n as) ∧ zs.Perm ms ∧ zs.Pairwise fun a b => rkF n as b ≤ rkF n as a := by
  have hM : ∀ l ∈ M, ∃ x, l = nearI n as x := fun l hl => by
    obtain ⟨x, _, e⟩ := List.mem_map.mp (h.subset hl)
    exact ⟨x, e.symm⟩
  have e : M = (M.map fun l => l.getD 1 0).map (nearI n as) := by
    rw [List.map_map]
    conv => lhs; rw [← List.map_id M]
    refine List.map_congr_left fun l hl => ?_
    obtain ⟨x, rfl⟩ := hM l hl
    rfl
  refine ⟨M.map fun l => l.getD 1 0, e, ?_, ?_⟩
  · have h2 := h.map fun l : List Int => l.getD 1 0
    rw [List.map_map] at h2
    have : ms.map ((fun l : List Int => l.getD 1 0) ∘ nearI n as) = ms := by
      conv => rhs; rw [← List.map_id ms]
      rfl
    rw [this] at h2
    exact h2
  · rw [e, List.pairwise_map] at hs
    exact hs.imp fun h => near_le h
theorem reach_tr {as : List Arw} {p q y : Int} (h1 : Reach as p q) (h2 : Reach as q y) : Reach as p y := by
  induction h2 with
  | start => exact h1
  | step _ ha e ih => exact ih.step ha e
theorem sort_tupsP {ks : List (List Int)} {k : T → Prop} (hne : ∀ l ∈ ks, l ≠ []) (h : ∀ ms : List (List Int), ms.Perm ks → (ms.Pairwise fun a b => leT a b = true) → k (.lst ((ms.map tupI).map T.v))) : bSortK [.lst (ks.map tupI)] k := by
  obtain ⟨ms, h1, h2⟩ := sortT_ex ks
  have e : ∀ xs : List (List Int), xs.map tupI = (xs.map fun l => l.map Sum.inl).map tK := fun xs => by
    rw [List.map_map]
    exact List.map_congr_left fun l _ => tupI_tK l
  refine ⟨ks.map fun l => l.map Sum.inl, ms.map fun l => l.map Sum.inl, fun _ => false, by rw [← e], h1.map _, ?_, ?_, ?_⟩
  · rw [List.pairwise_map]
    refine h2.imp fun {a b} h => ?_
    unfold leT at h
    rw [Bool.not_eq_true'] at h
    exact h
  · intro k hk
    obtain ⟨l, hl, rfl⟩ := List.mem_map.mp hk
    exact ⟨shK_ints l, by simpa using hne l hl⟩
  · rw [← e]
    exact h ms h1 h2
/-- what was lost so far, place by place -/
def ffL (n : Int) (f : Int → Int) : List D := (rngI n.toNat).map fun q => D.int (f q)
theorem ff_zero {n : Int} : List.replicate n.toNat (D.int 0) = ffL n fun _ => 0 := by
  unfold ffL
  rw [List.map_const', rngI_len]
theorem ff_get {n : Int} {f : Int → Int} {q : Int} (q0 : 0 ≤ q) (q1 : q < n) : (ffL n f)[q.toNat]? = some (.int (f q)) := by
  unfold ffL rngI
  rw [List.getElem?_map, List.getElem?_map, List.getElem?_range (by omega)]
  show some (D.int (f ((q.toNat : Nat) : Int))) = _
  rw [show ((q.toNat : Nat) : Int) = q by omega]
theorem ff_at {n : Int} {f : Int → Int} {q : Int} (q0 : 0 ≤ q) (q1 : q < n) : atI ((ffL n f).map T.v) q = some (.v (.int (f q))) := by
  have := at_nat (xs := (ffL n f).map T.v) (i := q.toNat) (x := .v (.int (f q))) (by rw [List.getElem?_map, ff_get q0 q1]; rfl)
  rwa [show ((q.toNat : Nat) : Int) = q by omega] at this
theorem ff_len {n : Int} {f : Int → Int} : (ffL n f).length = n.toNat := by
  unfold ffL
  rw [List.length_map, rngI_len]
theorem ff_set {n : Int} {f : Int → Int} {q w : Int} (q0 : 0 ≤ q) (q1 : q < n) : ((ffL n f).map T.v).set q.toNat (.v (.int w)) = (ffL n fun x => if x = q then w else f x).map T.v := by
  rw [← List.map_set]
  congr 1
  refine List.ext_getElem? fun i => ?_
  rw [List.getElem?_set, ff_len]
  rcases Nat.lt_or_ge i n.toNat with z | z
  · have h1 := ff_get (n := n) (f := fun x => if x = q then w else f x) (q := (i : Int)) (by omega) (by omega)
    have h2 := ff_get (n := n) (f := f) (q := (i : Int)) (by omega) (by omega)
    rw [Int.toNat_natCast] at h1 h2
    rw [h1]
    by_cases e : q.toNat = i
    · rw [if_pos e, if_pos (by omega), if_pos (by omega)]
    · rw [if_neg e, h2, if_neg (by omega)]
  · rw [if_neg (by omega), List.getElem?_eq_none (by rw [ff_len]; omega), List.getElem?_eq_none (by rw [ff_len]; omega)]
end Vl
end
section
set_option maxRecDepth 100000
namespace Vl
open PySem L2
def cd_plcoinsR (C : Addr) (C_NoPlace : Addr) (C_NotHopeful : Addr) : WS :=
  sSeq (sExpr (wCallS (sp_chkhopeR C C_NoPlace C_NotHopeful) (aCons (wVar 0) (aCons (wVar 1) (aNil)))))
  (sSeq (sSet 2 (wFrz (wCall (R_ways_of C) (aCons (wVar 0) (aNil)))))
  (sSeq (sSet 3 (wFrz (wCallS (sp_ranks C) (aCons (wVar 0) (aNil)))))
  (sSeq (sSet 4 (wFrz (wB bSort (aCons (wLc [5] (iVal (wCall (R_reached C) (aCons (wVar 0) (aCons (wVar 1) (aNil))))) (gName 5) (tYes) (wTup (aCons (wNeg (wIx (wVar 3) (wVar 5))) (aCons (wVar 5) (aNil))))) (aNil)))))
  (sSeq (sSet 6 (wRep (wD (.int 0)) (wFld C "places" (wVar 0))))
  (sSeq (sSet 7 (wFrz (wD (.int 0))))
  (sSeq (sFor (iVal (wVar 4)) (gTup (gCons (gName 8) (gCons (gName 5) (gNil)))) (sSeq (sSet 9 (wFrz (wBin .Add (wIxO 6 (wVar 5)) (wB bSum (aCons (wCallS (sp_plain_at) (aCons (wIx (wVar 2) (wVar 5)) (aCons (wVar 3) (aCons (wVar 5) (aCons (wIxO 6 (wVar 5)) (aNil)))))) (aNil))))))
  (sSeq (sSet 7 (wFrz (wB bMax2 (aCons (wVar 7) (aCons (wVar 9) (aNil))))))
  (sSeq (sFor (iVals' (wIx (wVar 2) (wVar 5))) (gTup (gCons (gName 8) (gCons (gName 10) (gNil)))) (sSeq (sIf (tVal (wCmp .Lt (wIx (wVar 3) (wVar 10)) (wIx (wVar 3) (wVar 5)))) (sSeq (sPut 6 (wVar 10) (wFrz (wB bMax2 (aCons (wIxO 6 (wVar 10)) (aCons (wVar 9) (aNil))))))
  (sNil)) (sNil))
  (sNil)))
  (sNil)))))
  (sSeq (sRet (wVar 7))
  (sNil))))))))
def sp_plcoinsR (C C_NoPlace C_NotHopeful : Addr) : Sp := fun ds Q Qx => ∃ (n : Int) (as : List Arw) (d : D), ds = [trD C n as, d] ∧ Good n as ∧ d.okC C ∧ HpQ n as C_NoPlace C_NotHopeful d Qx fun p => ∀ c L, PlOk n as p c L → Q (.v (.int c))
theorem wp_plcoinsR (C : Addr) (C_NoPlace : Addr) (C_NotHopeful : Addr) (ds : List D) (Q : T → Prop) (Qx : Xn → Prop) (h : sp_plcoinsR C C_NoPlace C_NotHopeful ds Q Qx) : cd_plcoinsR C C_NoPlace C_NotHopeful ((ds.map fun d => some (T.v d)) ++ List.replicate (11 - ds.length) none) { nx := fun _ => Q (.v .non), rt := fun r _ => Q r, ex := fun x _ => Qx x } := by
  obtain ⟨n, as, d, rfl, ok, okd, q0, q1⟩ := h
  change cd_plcoinsR C C_NoPlace C_NotHopeful [some (.v (trD C n as)), some (.v d), none, none, none, none, none, none, none, none, none] _
  unfold cd_plcoinsR
  have n1 := ok.n1
  have n2 := ok.n2
  ((try dsimp only); rw [sSeq_def]; simp only [sExpr, wCallS, aCons, wVar, slot, aNil, T.d_v])
  refine ⟨n, as, d, rfl, ok, okd, q0, fun p e p0 p1 => ⟨fun hr => ?_, (q1 p e p0 p1).2⟩⟩
  have q := (q1 p e p0 p1).1 hr
  subst e
  ((try dsimp only); rw [sSeq_def]; simp only [sSet, wFrz, wCall, aCons, wVar, slot, aNil, T.d_v, List.map_cons, List.map_nil, List.set_cons_succ, List.set_cons_zero])
  refine ⟨n, as, rfl, ok, ?_⟩
  ((try dsimp only); (try simp only [waysT_d]); rw [sSeq_def]; simp only [sSet, wFrz, wCallS, aCons, wVar, slot, aNil, T.d_v, List.set_cons_succ, List.set_cons_zero])
  refine ⟨n, as, rfl, ok, ?_⟩
  ((try dsimp only); (try simp only [T.d_v]); rw [sSeq_def]; simp only [sSet, wFrz, wB, aCons, wLc, iVal, wCall, wVar, slot, aNil, T.d_v, List.map_cons, List.map_nil])
  have hreach : ∀ x, Reach as p x → (0 ≤ x ∧ x < n) ∧ RkOk n as x ∧ ∃ r, rankF n as x = some r := fun x hx => by
    have h1 := hx.range ok p0 p1
    have h2 : ¬ Rch as (leftF n (rankF n as)) x := fun z => hr (by
      obtain ⟨y, hy, hm⟩ := rch_iff.mp z
      exact rch_iff.mpr ⟨y, reach_tr hx hy, hm⟩)
    have h3 := rk_ok ok h1.1 h1.2 h2
    exact ⟨h1, h3, h3.1⟩
  obtain ⟨ms, up, hm⟩ := reach_list ok p0 p1
  have ml : ms.length ≤ 12 := by
    have := len_n ok p0 p1 (up.imp fun h e => by omega) fun x hx => (hm x).mp hx
    omega
  have hat : ∀ x, Reach as p x → atI (rankD n as) x = some (.int (rkF n as x)) := fun x hx => by
    obtain ⟨h1, _, r, h2⟩ := hreach x hx
    exact rank_atP h1.1 h1.2 h2
  have hway : ∀ x : Int, 0 ≤ x → x < n → atI (waysD n as) x = some (.dic (wayD as x)) := fun x x0 x1 => by
    have := at_nat (xs := waysD n as) (i := x.toNat) (x := .dic (wayD as x)) (by
      unfold waysD
      rw [List.getElem?_map, List.getElem?_range (by omega)]
      show some (D.dic (wayD as ((x.toNat : Nat) : Int))) = _
      rw [show ((x.toNat : Nat) : Int) = x by omega])
    rwa [show ((x.toNat : Nat) : Int) = x by omega] at this
  refine ⟨n, as, p, ms, rfl, ok, p0, p1, up, hm, ?_⟩
  generalize hWD : D.lst (waysD n as) = WD
  generalize hRD : D.tup (rankD n as) = RD
  simp only [T.d_v, walkW_t]
  refine lcP_map ms D.int (fun x => tupI (nearI n as x)) (by omega) (fun x hx P1 h1 => ?_) ?_
  · simp only [gName, wTup, aCons, wNeg, wIx, wVar, wipeR, List.set_cons_succ, List.set_cons_zero, slot, T.d_v, T.v.injEq, aNil, lenk_2, true_and]
    rw [← hRD]
    refine ⟨_, hat x ((hm x).mp hx), ?_⟩
    subst hRD
    exact ⟨_, rfl, h1 _ rfl⟩
  rw [show ms.map (fun x => tupI (nearI n as x)) = (ms.map (nearI n as)).map tupI by rw [List.map_map]; rfl]
  simp only [lst_vd, wipeR, List.set_cons_succ, List.set_cons_zero, restR_cons, slot, keepV_n, restR_nil, bSort_l]
  refine .inr (.inr ?_)
  refine sort_tupsP (fun l hl => by obtain ⟨x, _, rfl⟩ := List.mem_map.mp hl; simp [nearI]) fun M hM hs => ?_
  obtain ⟨zs, rfl, zp, zo⟩ := near_list hM hs
  clear hM hs
  have zm : ∀ x ∈ zs, Reach as p x := fun x hx => (hm x).mp (zp.subset hx)
  have zl : zs.length ≤ 12 := by rw [zp.length_eq]; exact ml
  rw [lst_vd, List.map_map, show tupI ∘ nearI n as = fun x => D.tup [.int (-rkF n as x), .int x] from rfl]
  generalize hNL : D.lst (zs.map fun x => D.tup [.int (-rkF n as x), .int x]) = NL
  ((try dsimp only); rw [sSeq_def]; simp only [sSet, wRep, wD, T.d_v, wFld_def, wVar, slot, T.v.injEq, List.set_cons_succ, List.set_cons_zero, fldW_p, D.int.injEq, exists_eq_left'])
  refine ⟨by omega, by omega, ?_⟩
  rw [ff_zero]
  ((try dsimp only); rw [sSeq_def]; simp only [sSet, wFrz, wD, T.d_v, List.set_cons_succ, List.set_cons_zero])
  ((try dsimp only); rw [sSeq_def]; simp only [sFor, iVal, wVar, slot, T.d_v])
  rw [← hNL]
  simp only [walkW_l]
  refine forP_map zs (fun x => D.tup [.int (-rkF n as x), .int x]) (fun pre ρ => ∃ (f : Int → Int) (c : Int) (x5 x8 x9 x10 : Option T), ρ = [some (.v (trD C n as)), some (.v (.int p)), some (.v WD), some (.v RD), some (.v NL), x5, some (.lst ((ffL n f).map T.v)), some (.v (.int c)), x8, x9, x10] ∧ (∀ q, 0 ≤ f q) ∧ ∀ q ∈ pre, (∀ x, LaidOk (wonL n as q) (f q) x → f q + x ≤ c) ∧ ∀ a ∈ stepsOf as q, rkF n as a.2.2.2 < rkF n as q → ∀ x, LaidOk (wonL n as q) (f q) x → f q + x ≤ f a.2.2.2) ⟨fun _ => 0, 0, _, _, _, _, by rw [hNL], fun _ => Int.le_refl _, fun q hq => by cases hq⟩ ?_ ?_
  · rintro pre h post ρ e0 ⟨f, c, x5, x8, x9, x10, rfl, fn, hpre⟩
    have hz : h ∈ zs := by rw [e0]; simp
    have hR := zm h hz
    obtain ⟨⟨h0, h1⟩, hk, _⟩ := hreach h hR
    have hge : ∀ q ∈ pre, rkF n as h ≤ rkF n as q := fun q hq => by
      rw [e0, List.pairwise_append] at zo
      exact zo.2.2 q hq h (by simp)
    clear e0
    have sl := steps_len as h
    have l2 := ok.l2
    simp only [gTup_t, gCons_c, gName, List.set_cons_succ, List.set_cons_zero, gNil_n]
    ((try dsimp only); rw [sSeq_def]; simp only [sSet, wFrz, wBin, wIxO, slot, Option.some.injEq, exists_eq', wVar, T.v.injEq, D.int.injEq, wB, aCons, wCallS, wIx, T.d_v, aNil, List.set_cons_succ, List.set_cons_zero, exists_eq_left', true_and])
    refine ⟨_, ff_at h0 h1, ?_⟩
    rw [← hWD]
    simp only [ixW_l]
    refine ⟨_, hway h h0 h1, _, ff_at h0 h1, n, as, h, f h, by rw [← hRD], ok, h0, h1, hk, fn h, fun x hx => ?_⟩
    have hlx := laid_eq (won_share ok h0 h1 hk).1 (fn h) hx
    have x0 := hx.nn
    simp only [T.d_v, bSum_t, binW_ai]
    refine ⟨_, rfl, ?_⟩
    rw [lay_sum, hlx, hWD]
    have f0 := fn h
    obtain ⟨w, hw⟩ : ∃ w, w = f h + x := ⟨_, rfl⟩
    rw [← hw]
    have huniq : ∀ y, LaidOk (wonL n as h) (f h) y → y = x := fun y hy => Int.le_antisymm (hy.lo x hx.nn hx.ok) (hx.lo y hy.nn hy.ok)
    ((try dsimp only); rw [sSeq_def]; simp only [sSet, wFrz, wB, aCons, wVar, slot, aNil, T.d_v, List.set_cons_succ, List.set_cons_zero, bMax2_i])
    ((try dsimp only); rw [sSeq_def]; simp only [sFor, iVals', wIx, wVar, slot, T.d_v, sNil])
    rw [← hWD]
    simp only [ixW_l]
    refine ⟨_, hway h h0 h1, ?_⟩
    simp only []
    rw [way_valsP, hWD]
    refine forP_map (stepsOf as h) (fun a => D.tup [.int a.2.2.1, .int a.2.2.2]) (fun cur ρ => ∃ (g : Int → Int) (y8 y10 : Option T), ρ = [some (.v (trD C n as)), some (.v (.int p)), some (.v WD), some (.v RD), some (.v NL), some (.v (.int h)), some (.lst ((ffL n g).map T.v)), some (.v (.int (max c w))), y8, some (.v (.int w)), y10] ∧ (∀ q, f q ≤ g q) ∧ (∀ q, rkF n as h ≤ rkF n as q → g q = f q) ∧ ∀ a ∈ cur, rkF n as a.2.2.2 < rkF n as h → w ≤ g a.2.2.2) ⟨f, _, _, rfl, fun _ => Int.le_refl _, fun _ _ => rfl, fun a ha => by cases ha⟩ ?_ ?_
    · rintro cur a rest ρ e1 ⟨g, y8, y10, rfl, g1, g2, g3⟩
      have haS : a ∈ stepsOf as h := by rw [e1]; simp
      obtain ⟨haA, hac⟩ := steps_sub haS
      have hRa : Reach as p a.2.2.2 := hR.step haA hac
      have hta := (hreach _ hRa).1
      have hat1 := hat _ hRa
      have hat2 := hat _ hR
      simp only [gTup_t, gCons_c, gName, List.set_cons_succ, List.set_cons_zero, gNil_n]
      ((try dsimp only); rw [sSeq_def]; simp only [sIf, tVal, wCmp, wIx, wVar, slot, T.d_v, T.v.injEq, D.bl.injEq, sNil, List.cons.injEq, Option.some.injEq, and_true, true_and, exists_eq_left', cmpW_lt])
      rw [← hRD]
      simp only [ixW_t]
      refine ⟨_, hat1, _, hat2, ?_⟩
      refine ⟨fun e => ?_, fun e => ?_⟩
      · have e := of_decide_eq_true e
        rw [hRD]
        ((try dsimp only); rw [sSeq_def]; simp only [sPut, onL, slot, List.set_cons_succ, List.set_cons_zero, ex_app2, wFrz, wB, aCons, wIxO, Option.some.injEq, exists_eq', wVar, T.v.injEq, D.int.injEq, aNil, T.d_v, sNil, List.cons.injEq, and_true, true_and, exists_eq_left'])
        refine ⟨_, ff_at hta.1 hta.2, ?_⟩
        simp only [bMax2_i, T.d_v]
        refine ⟨_, ixN_int hta.1 (by rw [List.length_map, ff_len]; omega), ?_⟩
        rw [ff_set hta.1 hta.2]
        refine ⟨_, _, _, ⟨rfl, rfl, rfl⟩, fun q => ?_, fun q hq => ?_, fun b hb hlt => ?_⟩
        · have := g1 q
          by_cases z : q = a.2.2.2
          · rw [if_pos z]; subst z; omega
          · rw [if_neg z]; exact this
        · rw [if_neg fun z => by rw [z] at hq; omega]
          exact g2 q hq
        · by_cases z : b.2.2.2 = a.2.2.2
          · rw [if_pos z]; omega
          · rw [if_neg z]
            rcases List.mem_append.mp hb with h | h
            · exact g3 b h hlt
            · rw [List.mem_singleton.mp h] at z
              exact absurd rfl z
      · have e := of_decide_eq_false e
        refine ⟨g, _, _, ⟨rfl, rfl, rfl⟩, g1, g2, fun b hb hlt => ?_⟩
        rcases List.mem_append.mp hb with h | h
        · exact g3 b h hlt
        · rw [List.mem_singleton.mp h] at hlt
          exact absurd hlt e
    · rintro ρ ⟨g, y8, y10, rfl, g1, g2, g3⟩
      refine ⟨g, _, _, _, _, _, rfl, fun q => Int.le_trans (fn q) (g1 q), fun q hq => ?_⟩
      rcases List.mem_append.mp hq with hq | hq
      · have e := g2 q (hge q hq)
        rw [e]
        obtain ⟨b1, b2⟩ := hpre q hq
        exact ⟨fun y hy => by have := b1 y hy; omega, fun a ha hlt y hy => Int.le_trans (b2 a ha hlt y hy) (g1 _)⟩
      · rw [List.mem_singleton.mp hq, g2 h (Int.le_refl _)]
        exact ⟨fun y hy => by rw [huniq y hy]; omega, fun a ha hlt y hy => by rw [huniq y hy, ← hw]; exact g3 a ha hlt⟩
  · rintro ρ ⟨f, c, x5, x8, x9, x10, rfl, fn, hpre⟩
    ((try dsimp only); rw [sSeq_def]; simp only [sRet, wVar, slot])
    refine q c f ⟨fun q _ => fn q, fun q hq => (hpre q (zp.symm.subset ((hm q).mpr hq))).1, fun q hq => (hpre q (zp.symm.subset ((hm q).mpr hq))).2⟩
theorem ln_plcoinsR (C : Addr) (C_NoPlace : Addr) (C_NotHopeful : Addr) : ∀ ds Q Qx, sp_plcoinsR C C_NoPlace C_NotHopeful ds Q Qx → ds.length = 2 := by rintro ds Q Qx ⟨n, as, d, rfl, _⟩; rfl
end Vl
end
section
set_option maxRecDepth 100000
/-! We16: try: .. except A: .. except B: .., plain names, nothing raised in a suite. -/
namespace Vl
open PySem L2
/-- cs: for each clause, whether each class that may come is caught by it, and its suite -/
def exMany (Z : Outs) : List (List (Addr × Bool) × WS) → Xn → Rho → Prop
  | [] => fun xn ρ1 => Z.ex xn ρ1
  | (L, w) :: r => fun xn ρ1 => ∃ b : Bool, (xn.C, b) ∈ L ∧ (b = true → w ρ1 (Outs.mk Z.nx Z.rt Z.bk Z.ct (fun _ _ => False))) ∧ (b = false → exMany Z r xn ρ1)
def sTryM (cs : List (List (Addr × Bool) × WS)) (wb : WS) : WS := fun ρ Z => wb ρ (Outs.mk Z.nx Z.rt Z.bk Z.ct (exMany Z cs))
inductive Clauses (X : Cx) : List ExceptHandler → List (List (Addr × Bool) × WS) → Prop
  | nil : Clauses X [] []
  | cons {x : Str} {c : Value} {L : List (Addr × Bool)} {w : WS} {b₀ : Stmt} {suite : List Stmt} {np pos' : Pos} {hds : List ExceptHandler} {cs : List (List (Addr × Bool) × WS)} (hE : ExmL X.K c L) (hn : Names X x c)
      (hsu : ∀ (a : Addr) (oe : Obj) (pn : List (Addr × Obj)), (∃ vs, oe.data = .fields vs) → RfS (X.suite a ((a, oe) :: pn)) (b₀ :: suite) w) (r : Clauses X hds cs) :
      Clauses X (.ExceptHandler (some (.Name x np)) none (b₀ :: suite) pos' :: hds) ((L, w) :: cs)
theorem names_of {X : Cx} {x : Str} {c : Value} (hm : X.mg x = some c) (hgx : Gl X x := by rfl) (hdx : (x == ("__debug__" : Str)) = false := by decide) : Names X x c := ⟨hgx, hdx, .inl hm⟩
theorem Clauses.hds {X : Cx} {hds : List ExceptHandler} {cs : List (List (Addr × Bool) × WS)} (h : Clauses X hds cs) : ∃ l, HdsOk X hds l ∧ ∀ {B F0 : Hp} {Z : Outs} {De : Ends} {Wx : WX}, Takes X Wx → Meets X.K B F0 Z De Wx → ∀ (xn : Xn) (ρ1 : Rho) (cls : Value) (d : Option Addr) (F : Hp) (σ1 : L2.St) (H1 : Hp), exMany Z cs xn ρ1 → RlF X.K B F0 F ρ1 σ1 H1 → XDen X.K F xn cls d → wMany X.K Wx De l cls d σ1 H1 := by
  induction h with
  | nil => exact ⟨[], .nil, fun tk m xn ρ1 cls d F σ1 H1 hx RF xd => m.ex xn ρ1 cls d F σ1 H1 hx RF xd⟩
  | @cons x c L w b₀ suite np pos' hds cs hE hn hsu r ih =>
    obtain ⟨l, h1, h2⟩ := ih
    refine ⟨(c, fun a cls d D σ H => ∀ (oe : Obj) (pn : List (Addr × Obj)), Zc cls d oe → (∃ vs, oe.data = .fields vs) → tSs (X.suite a ((a, oe) :: pn)) (b₀ :: suite) D σ H) :: l, .cons hn (fun a oe cls d pn z f => ⟨fun pins s σ H D I h => (pss_u (X.suite a ((a, oe) :: pn)) (b₀ :: suite)).run pins s σ H D I (h oe pn z f)⟩) h1, fun {B F0 Z De Wx} tk m xn ρ1 cls d F σ1 H1 hx RF xd => ?_⟩
    obtain ⟨b, e, hy, hnn⟩ := hx
    obtain ⟨ec, _⟩ := id xd
    refine ⟨b, by rw [ec]; exact hE _ e, fun eb a ha oe pn2 z f => ?_, fun eb => h2 tk m xn ρ1 cls d F σ1 H1 (hnn eb) RF xd⟩
    exact hsu a oe pn2 f ρ1 _ (hy eb) B F0 σ1 H1 _ (fun _ _ _ _ => False) takes0 ⟨F, RF⟩
      ⟨m.nx, m.rt, m.bk, m.ct, fun xn ρ cls d F σ H q => q.elim⟩
theorem rs_tryM {X : Cx} {h₀ : ExceptHandler} {hds : List ExceptHandler} {cs : List (List (Addr × Bool) × WS)} {body : List Stmt} {pos : Pos} {wb : WS} (g : Gd X) (hc : Clauses X (h₀ :: hds) cs)
    (hb : ∀ (pn : List (Addr × Obj)) (xe : Value → Shared → Prop), Gd (X.tr pn xe) → RfS (X.tr pn xe) body wb)
    (hs : X.stack = X.env :: X.outer := by rfl) (hf : X.env.frame = some X.env.locals := by rfl) :
    RfS1 X (.Try body (h₀ :: hds) [] [] pos) (sTryM cs wb) := fun ρ Z h B F0 σ H De Wx tk R m => by
  obtain ⟨l, h1, h2⟩ := hc.hds
  exact ⟨_, ps_try_many (tb := fun W D σ H => ∀ (pn : List (Addr × Obj)) (xe : Value → Shared → Prop), Takes (X.tr pn xe) W → PassesOwn (model X.prog X.w) X.A X.env xe → tSs (X.tr pn xe) body D σ H) (l := l) (Wout := Wx)
      hs hf tk (fun W pn xe t own => ⟨fun pins s σ H D I h => (pss_u (X.tr pn xe) body).run pins s σ H D I (h pn xe t own)⟩) h1,
    fun pn xe t own => hb pn xe (gd_tr g own) ρ _ h B F0 σ H De _ t R ⟨m.nx, m.rt, m.bk, m.ct, fun xn ρ1 cls d F σ1 H1 hx RF xd => h2 tk m xn ρ1 cls d F σ1 H1 hx RF xd⟩⟩
end Vl
end
section
set_option maxRecDepth 100000
namespace Vl
open PySem L2
def cd_lword51 (C : Addr) (C_NoPlace : Addr) (C_NoCoins : Addr) (C_NotHopeful : Addr) : WS :=
  sSeq (sSet 4 (wFrz (wD (.str "told"))))
  (sSeq (sTryM [([(C_NoPlace, true), (C_NoCoins, false), (C_NotHopeful, false)], sSeq (sSet 4 (wFrz (wD (.str "place"))))
  (sNil)), ([(C_NoPlace, false), (C_NoCoins, false), (C_NotHopeful, true)], sSeq (sSet 4 (wFrz (wD (.str "hopeful"))))
  (sNil)), ([(C_NoPlace, false), (C_NoCoins, true), (C_NotHopeful, false)], sSeq (sSet 4 (wFrz (wD (.str "coins"))))
  (sNil))] (sSeq (sIf (tVal (wCmp .Eq (wVar 0) (wD (.int 0)))) (sSeq (sExpr (wCallS (sp_plstakeR C C_NoPlace C_NoCoins C_NotHopeful) (aCons (wVar 1) (aCons (wVar 2) (aCons (wVar 3) (aNil))))))
  (sNil)) (sSeq (sExpr (wCallS (sp_plcoinsR C C_NoPlace C_NotHopeful) (aCons (wVar 1) (aCons (wVar 2) (aNil)))))
  (sNil)))
  (sNil)))
  (sSeq (sRet (wVar 4))
  (sNil)))
def sp_lword51 (C C_NoPlace C_NoCoins C_NotHopeful : Addr) : Sp := fun ds Q _ => ∃ (n : Int) (as : List Arw) (k : Int) (d l : D), ds = [.int k, trD C n as, d, l] ∧ Good n as ∧ d.okC C ∧ l.okC C ∧
  (withinB d 0 (n - 1) = false → Q (.v (.str "place"))) ∧ ∀ p : Int, d = .int p → 0 ≤ p → p < n → (Rch as (leftF n (rankF n as)) p → Q (.v (.str "hopeful"))) ∧ (¬ Rch as (leftF n (rankF n as)) p → (k = 0 → coinsB l = false → Q (.v (.str "coins"))) ∧ ((k = 0 → coinsB l = true) → Q (.v (.str "told"))))
theorem wp_lword51 (C : Addr) (C_NoPlace : Addr) (C_NoCoins : Addr) (C_NotHopeful : Addr) (ds : List D) (Q : T → Prop) (Qx : Xn → Prop) (h : sp_lword51 C C_NoPlace C_NoCoins C_NotHopeful ds Q Qx) : cd_lword51 C C_NoPlace C_NoCoins C_NotHopeful ((ds.map fun d => some (T.v d)) ++ List.replicate (5 - ds.length) none) { nx := fun _ => Q (.v .non), rt := fun r _ => Q r, ex := fun x _ => Qx x } := by
  obtain ⟨n, as, k, d, l, rfl, ok, okd, okl, q0, q1⟩ := h
  change cd_lword51 C C_NoPlace C_NoCoins C_NotHopeful [some (.v (.int k)), some (.v (trD C n as)), some (.v d), some (.v l), none] _
  unfold cd_lword51
  unfold sTryM
  ((try dsimp only); rw [sSeq_def]; simp only [sSet, wFrz, wD, T.d_v, List.set_cons_succ, List.set_cons_zero])
  ((try dsimp only); rw [sSeq_def]; simp only [])
  ((try dsimp only); rw [sSeq_def]; simp only [sIf, tVal, wCmp, wVar, slot, wD, T.d_v, T.v.injEq, D.bl.injEq, sNil, exists_eq_left', cmpW_eq, eqW_i])
  refine ⟨fun e => ?_, fun e => ?_⟩
  · have e := of_decide_eq_true e
    ((try dsimp only); rw [sSeq_def]; simp only [sExpr, wCallS, aCons, wVar, slot, aNil, T.d_v, sNil])
    refine ⟨n, as, d, l, rfl, ok, okd, okl, fun ew => ?_, fun p ep p0 p1 => ⟨fun hh => ⟨fun ec => ?_, fun ec t => ?_⟩, fun hh => ?_⟩⟩
    · dsimp only
      unfold exMany
      refine ⟨true, by simp, fun _ => ?_, fun e => by cases e⟩
      ((try dsimp only); rw [sSeq_def]; simp only [sSet, wFrz, wD, sNil, T.d_v, List.set_cons_succ, List.set_cons_zero])
      ((try dsimp only); rw [sSeq_def]; simp only [sRet, wVar, slot])
      exact q0 ew
    · dsimp only
      unfold exMany
      refine ⟨false, by simp, fun e => (by cases e), fun _ => ?_⟩
      unfold exMany
      refine ⟨false, by simp, fun e => (by cases e), fun _ => ?_⟩
      unfold exMany
      refine ⟨true, by simp, fun _ => ?_, fun e => by cases e⟩
      ((try dsimp only); rw [sSeq_def]; simp only [sSet, wFrz, wD, sNil, T.d_v, List.set_cons_succ, List.set_cons_zero])
      ((try dsimp only); rw [sSeq_def]; simp only [sRet, wVar, slot])
      exact ((q1 p ep p0 p1).2 hh).1 e ec
    · simp only []
      ((try dsimp only); rw [sSeq_def]; simp only [sRet, wVar, slot])
      exact ((q1 p ep p0 p1).2 hh).2 fun _ => ec
    · dsimp only
      unfold exMany
      refine ⟨false, by simp, fun e => (by cases e), fun _ => ?_⟩
      unfold exMany
      refine ⟨true, by simp, fun _ => ?_, fun e => by cases e⟩
      ((try dsimp only); rw [sSeq_def]; simp only [sSet, wFrz, wD, sNil, T.d_v, List.set_cons_succ, List.set_cons_zero])
      ((try dsimp only); rw [sSeq_def]; simp only [sRet, wVar, slot])
      exact (q1 p ep p0 p1).1 hh
  · have e := of_decide_eq_false e
    ((try dsimp only); rw [sSeq_def]; simp only [sExpr, wCallS, aCons, wVar, slot, aNil, T.d_v, sNil])
    refine ⟨n, as, d, rfl, ok, okd, fun ew => ?_, fun p ep p0 p1 => ⟨fun hh c L _ => ?_, fun hh => ?_⟩⟩
    · dsimp only
      unfold exMany
      refine ⟨true, by simp, fun _ => ?_, fun e => by cases e⟩
      ((try dsimp only); rw [sSeq_def]; simp only [sSet, wFrz, wD, sNil, T.d_v, List.set_cons_succ, List.set_cons_zero])
      ((try dsimp only); rw [sSeq_def]; simp only [sRet, wVar, slot])
      exact q0 ew
    · simp only []
      ((try dsimp only); rw [sSeq_def]; simp only [sRet, wVar, slot])
      exact ((q1 p ep p0 p1).2 hh).2 fun z => absurd z e
    · dsimp only
      unfold exMany
      refine ⟨false, by simp, fun e => (by cases e), fun _ => ?_⟩
      unfold exMany
      refine ⟨true, by simp, fun _ => ?_, fun e => by cases e⟩
      ((try dsimp only); rw [sSeq_def]; simp only [sSet, wFrz, wD, sNil, T.d_v, List.set_cons_succ, List.set_cons_zero])
      ((try dsimp only); rw [sSeq_def]; simp only [sRet, wVar, slot])
      exact (q1 p ep p0 p1).1 hh
theorem ln_lword51 (C : Addr) (C_NoPlace : Addr) (C_NoCoins : Addr) (C_NotHopeful : Addr) : ∀ ds Q Qx, sp_lword51 C C_NoPlace C_NoCoins C_NotHopeful ds Q Qx → ds.length = 4 := by rintro ds Q Qx ⟨n, as, k, d, l, rfl, _⟩; rfl
end Vl
end
section
set_option maxRecDepth 100000
namespace Vl
open PySem L2
/-! data with bools in it, compared -/
def eqK (k : Nat) (d : D) : Prop := d.plain = true ∧ d.py.canLay0 = true ∧ d.py.depth ≤ k
theorem eqK_L {k : Nat} : ∀ {xs : List D}, (∀ d ∈ xs, eqK k d) → D.plainL xs = true ∧ PyData.canLayAll0 (D.pyL xs) = true ∧ PyData.depthAll (D.pyL xs) ≤ k
  | [], _ => ⟨rfl, rfl, Nat.zero_le _⟩
  | x :: xs, h => by
    obtain ⟨a1, a2, a3⟩ := eqK_L (xs := xs) fun d hd => h d (List.mem_cons_of_mem _ hd)
    obtain ⟨b1, b2, b3⟩ := h x List.mem_cons_self
    refine ⟨?_, ?_, ?_⟩
    · rw [D.plainL, b1, a1]; rfl
    · rw [D.pyL, PyData.canLayAll0, b2, a2]; rfl
    · rw [D.pyL, PyData.depthAll]
      omega
theorem eqK_lst {k : Nat} {xs : List D} (h : ∀ d ∈ xs, eqK k d) : eqK (k + 1) (.lst xs) := by
  obtain ⟨a1, a2, a3⟩ := eqK_L h
  refine ⟨by rw [D.plain]; exact a1, by rw [D.py, PyData.canLay0]; exact a2, ?_⟩
  rw [D.py, PyData.depth]
  omega
theorem eqK.up {k j : Nat} {d : D} (h : eqK k d) (hj : k ≤ j) : eqK j d := ⟨h.1, h.2.1, Nat.le_trans h.2.2 hj⟩
theorem eqK.p {k : Nat} {d : D} (h : eqK k d) (hk : k ≤ 64 := by decide) : eqP d := by
  refine ⟨h.1, ?_⟩
  unfold SeqAt.shaped
  rw [h.2.1, Bool.true_and]
  exact decide_eq_true (Nat.le_trans h.2.2 hk)
theorem eqK.self {k : Nat} {d : D} (h : eqK k d) : PyData.eqv d.py d.py = true := SeqAt.eqv_refl _ h.2.1
end Vl
end
section
set_option maxRecDepth 100000
namespace Vl
open PySem L2
def cd_law51 (C : Addr) (C_NoPlace : Addr) (C_NoCoins : Addr) (C_NotHopeful : Addr) : WS :=
  sSeq (sSet 1 (wCallS (sp_pot) (aCons (wVar 0) (aNil))))
  (sSeq (sFor (iRng1 (aCons (wD (.int 3)) (aNil))) (gName 2) (sSeq (sSet 3 (wFrz (wCallMS (sp_lparts) 1 (aCons (wD (.int 4)) (aCons (wD (.int 3)) (aCons (wD (.int 6)) (aNil)))))))
  (sSeq (sSet 4 (wFrz (wNew C (R_track C) (aCons (wIx (wVar 3) (wD (.int 0))) (aCons (wIx (wVar 3) (wD (.int 1))) (aNil))))))
  (sSeq (sSet 5 (wFrz (wCallS (sp_lhopeful47) (aCons (wVar 3) (aNil)))))
  (sSeq (sSet 6 (wFrz (wCallMS (sp_lany51) 1 (aCons (wTup (aCons (wD .non) (aCons (wD (.bl true)) (aCons (wD (.bl false)) (aCons (wNeg (wD (.int 1))) (aCons (wD (.str "0")) (aCons (wTup (aCons (wD (.int 0)) (aNil))) (aCons (wLst (aCons (wD (.int 0)) (aNil))) (aCons (wDnew) (aCons (wBin .Sub (wD (.int 0)) (wBin .Pow (wD (.int 10)) (wD (.int 30)))) (aCons (wCallMS (sp_ldeep51) 1 (aNil)) (aNil)))))))))))) (aNil)))))
  (sSeq (sFor (iVal (wTup (aCons (wVar 6) (aCons (wIx (wVar 3) (wD (.int 0))) (aCons (wNeg (wD (.int 1))) (aCons (wD (.bl true)) (aNil))))))) (gName 7) (sSeq (sIf (tOr' (tVal (wCmp .NotEq (wCallS (sp_lword51 C C_NoPlace C_NoCoins C_NotHopeful) (aCons (wD (.int 0)) (aCons (wVar 4) (aCons (wVar 7) (aCons (wVar 6) (aNil)))))) (wD (.str "place")))) (tVal (wCmp .NotEq (wCallS (sp_lword51 C C_NoPlace C_NoCoins C_NotHopeful) (aCons (wD (.int 1)) (aCons (wVar 4) (aCons (wVar 7) (aCons (wD (.int 0)) (aNil)))))) (wD (.str "place"))))) (sSeq (sRet (wD (.bl false)))
  (sNil)) (sNil))
  (sNil)))
  (sSeq (sFor (iRng1 (aCons (wIx (wVar 3) (wD (.int 0))) (aNil))) (gName 8) (sSeq (sSet 9 (wFrz (wCmp .In (wVar 8) (wVar 5))))
  (sSeq (sSet 10 (wFrz (wLst (aCons (wCallS (sp_lword51 C C_NoPlace C_NoCoins C_NotHopeful) (aCons (wD (.int 0)) (aCons (wVar 4) (aCons (wVar 8) (aCons (wVar 6) (aNil)))))) (aCons (wCallS (sp_lword51 C C_NoPlace C_NoCoins C_NotHopeful) (aCons (wD (.int 0)) (aCons (wVar 4) (aCons (wVar 8) (aCons (wCallMS (sp_pdraw) 1 (aCons (wD (.int 30)) (aNil))) (aNil)))))) (aCons (wCallS (sp_lword51 C C_NoPlace C_NoCoins C_NotHopeful) (aCons (wD (.int 1)) (aCons (wVar 4) (aCons (wVar 8) (aCons (wD (.int 0)) (aNil)))))) (aNil)))))))
  (sSeq (sIf (tVal (wEqP true (wVar 10) (wIf' (tTruO 9) (wLst (aCons (wD (.str "coins")) (aCons (wD (.str "told")) (aCons (wD (.str "told")) (aNil))))) (wRep (wD (.str "hopeful")) (wD (.int 3)))))) (sSeq (sRet (wD (.bl false)))
  (sNil)) (sNil))
  (sNil)))))
  (sNil))))))))
  (sSeq (sRet (wD (.bl true)))
  (sNil)))
abbrev sp_law51 (C C_NoPlace C_NoCoins C_NotHopeful : Addr) : Sp := sp_law
theorem odd_neg {i : Int} (h : i < 0) : OddN (.int i) := ⟨rfl, decide_eq_false (by omega), fun m => by
  show (decide (0 ≤ i) && decide (i ≤ m)) = false
  rw [decide_eq_false (by omega)]
  rfl⟩
theorem eqK_str (k : Nat) {s : Str} (h : (PyData.str s).canLay0 = true) : eqK k (.str s) := ⟨rfl, h, Nat.zero_le _⟩
theorem wp_law51 (C : Addr) (C_NoPlace : Addr) (C_NoCoins : Addr) (C_NotHopeful : Addr) (ds : List D) (Q : T → Prop) (Qx : Xn → Prop) (h : sp_law51 C C_NoPlace C_NoCoins C_NotHopeful ds Q Qx) : cd_law51 C C_NoPlace C_NoCoins C_NotHopeful ((ds.map fun d => some (T.v d)) ++ List.replicate (11 - ds.length) none) { nx := fun _ => Q (.v .non), rt := fun r _ => Q r, ex := fun x _ => Qx x } := by
  obtain ⟨ns, rfl, hl, hb, q⟩ := h
  change cd_law51 C C_NoPlace C_NoCoins C_NotHopeful [some (.v (.lst (ns.map D.int))), none, none, none, none, none, none, none, none, none, none] _
  unfold cd_law51
  unfold wEqP
  ((try dsimp only); (try simp only [wVar, wIf', tTruO, wLst, aCons, wD, aNil, T.d_v, lenk_3, List.map_cons, List.map_nil, lst_v3, if_true, true_and, wRep, T.v.injEq, D.int.injEq, lst_vd, exists_eq_left']); rw [sSeq_def]; simp only [sSet, wCallS, aCons, wVar, slot, aNil, T.d_v, List.set_cons_succ, List.set_cons_zero])
  refine ⟨ns, rfl, hl, fun u hu => ?_⟩
  obtain ⟨ts, rfl, hu⟩ := pot_L hu
  ((try dsimp only); rw [sSeq_def]; simp only [sFor, iRng1, aCons, wD, aNil, T.d_v, List.cons.injEq, D.int.injEq, and_true, rng_map, exists_eq_left'])
  refine ⟨by decide, by decide, ?_⟩
  refine forP_map (rngI (3 : Int).toNat) D.int (fun pre ρ => ∃ (u : T) (x2 x3 x4 x5 x6 x7 x8 x9 x10 : Option T), ρ = [some (.v (.lst (ns.map D.int))), some u, x2, x3, x4, x5, x6, x7, x8, x9, x10] ∧ Pot u) ⟨_, none, none, none, none, none, none, none, none, none, rfl, hu⟩ ?_ ?_
  · rintro pre t post ρ e0 ⟨u, x2, x3, x4, x5, x6, x7, x8, x9, x10, rfl, hu⟩
    obtain ⟨ts, rfl, hu⟩ := pot_L hu
    simp only [gName, List.set_cons_succ, List.set_cons_zero]
    ((try dsimp only); rw [sSeq_def]; simp only [sSet, wFrz, wCallMS, onL, slot, List.set_cons_succ, List.set_cons_zero, ex_app2, aCons, wD, aNil, T.d_v, true_and])
    refine ⟨4, 3, 6, rfl, by decide, by decide, by decide, by decide, by decide, by decide, by decide, hu, fun n as u hg hn4 hu => ?_⟩
    obtain ⟨ts, rfl, hu⟩ := pot_L hu
    have n1 := hg.n1
    have n2 := hg.n2
    simp only [T.d_v]
    ((try dsimp only); rw [sSeq_def]; simp only [sSet, wFrz, wNew, aCons, wIx, wVar, slot, wD, T.d_v, aNil, List.map_cons, List.map_nil, List.set_cons_succ, List.set_cons_zero, ixW_t, atI_1, Option.some.injEq, exists_eq_left', atI_0])
    intro q0
    refine ⟨q0, n, as, rfl, hg, rfl, _, _, rfl, ?_⟩
    ((try dsimp only); (try simp only [trT_d]); rw [sSeq_def]; simp only [sSet, wFrz, wCallS, aCons, wVar, slot, aNil, T.d_v, List.set_cons_succ, List.set_cons_zero])
    refine ⟨n, as, rfl, hg, fun h hh => ?_⟩
    dsimp only
    rw [lst_vd]
    ((try dsimp only); rw [sSeq_def]; simp only [sSet, wFrz, wCallMS, onL, slot, List.set_cons_succ, List.set_cons_zero, ex_app2, aCons, wTup, wD, wNeg, T.v.injEq, D.int.injEq, aNil, T.d_v, lenk_1, wLst, wDnew, wBin, List.map_cons, List.map_nil, lst_v1, T.d_dic, lenk_10, true_and, binW_p, binW_s, exists_eq_left'])
    refine ⟨by unfold CPow; decide, rfl, hu, fun dd u hdd hu => ?_⟩
    obtain ⟨ts, rfl, hu⟩ := pot_L hu
    simp only [T.d_v]
    refine ⟨_, rfl, by show 0 < 10; decide, by show 10 ≤ 1000; decide, hu, fun od u hod hu => ?_⟩
    have hO : OddN od := by
      simp only [List.mem_cons, List.not_mem_nil, or_false] at hod
      rcases hod with rfl | rfl | rfl | rfl | rfl | rfl | rfl | rfl | rfl | rfl
      · exact ⟨rfl, rfl, fun _ => rfl⟩
      · exact ⟨rfl, rfl, fun _ => rfl⟩
      · exact ⟨rfl, rfl, fun _ => rfl⟩
      · exact ⟨rfl, by decide, fun _ => rfl⟩
      · exact ⟨rfl, rfl, fun _ => rfl⟩
      · exact odd_tup
      · exact odd_lst
      · exact ⟨rfl, rfl, fun _ => rfl⟩
      · exact odd_neg (by decide)
      · exact hdd
    clear hod hdd
    ((try dsimp only); (try simp only [T.d_v]); rw [sSeq_def]; simp only [sFor, iVal, wTup, aCons, wVar, slot, wIx, wD, T.d_v, wNeg, T.v.injEq, D.int.injEq, aNil, lenk_4, walkW_t, true_and, exists_eq_left', ixW_t, atI_0, Option.some.injEq])
    refine forP_D [od, .int n, .int (-1), .bl true] (fun pre ρ => ∃ (x7 : Option T), ρ = [some (.v (.lst (ns.map D.int))), some u, some (.v (.int t)), some (.v (.tup [.int n, asD as])), some (.v (trD C n as)), some (.v (.lst (((rngI n.toNat).filter h).map D.int))), some (.v od), x7, x8, x9, x10]) ⟨_, rfl⟩ ?_ ?_
    · rintro pre2 d post2 ρ e2 ⟨x7, rfl⟩
      have hd : d.okC C ∧ withinB d 0 (n - 1) = false := by
        have hm : d ∈ [od, .int n, .int (-1), .bl true] := by rw [e2]; simp
        simp only [List.mem_cons, List.not_mem_nil, or_false] at hm
        rcases hm with rfl | rfl | rfl | rfl
        · exact ⟨.inl hO.ok, hO.np _⟩
        · refine ⟨okC_i, ?_⟩
          show (decide (0 ≤ n) && decide (n ≤ n - 1)) = false
          rw [decide_eq_false (show ¬ n ≤ n - 1 by omega), Bool.and_false]
        · exact ⟨okC_i, rfl⟩
        · exact ⟨okC_b, rfl⟩
      simp only [gName, List.set_cons_succ, List.set_cons_zero]
      ((try dsimp only); rw [sSeq_def]; simp only [sIf, tOr', tVal, wCmp, wCallS, aCons, wD, wVar, slot, aNil, T.d_v, T.v.injEq, D.bl.injEq, sNil, List.cons.injEq, and_true, true_and, exists_eq', implies_true, exists_eq_left', cmpW_ne, forall_const, Bool.true_eq_false])
      have hno : ∀ p : Int, d = .int p → 0 ≤ p → p < n → False := fun p e p0 p1 => by
        have := hd.2
        rw [e] at this
        have : (decide (0 ≤ p) && decide (p ≤ n - 1)) = false := this
        simp at this
        omega
      refine ⟨n, as, 0, d, od, rfl, hg, hd.1, .inl hO.ok, fun _ => ?_, fun p e p0 p1 => absurd (hno p e p0 p1) id⟩
      simp only [T.d_v, eqW_s, decide_true, Bool.not_true, forall_const, Bool.false_eq_true, false_implies, and_true]
      refine ⟨n, as, 1, d, .int 0, rfl, hg, hd.1, okC_i, fun _ => ?_, fun p e p0 p1 => absurd (hno p e p0 p1) id⟩
      simp only [T.d_v, eqW_s, decide_true, Bool.not_true, Bool.false_eq_true, false_implies]
      skip
    · rintro ρ ⟨x7, rfl⟩
      ((try dsimp only); rw [sSeq_def]; simp only [sFor, iRng1, aCons, wIx, wVar, slot, wD, T.d_v, aNil, List.cons.injEq, and_true, rng_map, sNil, ixW_t, atI_0, Option.some.injEq, exists_eq_left', D.int.injEq])
      refine ⟨by omega, by omega, ?_⟩
      have hflt : ((((rngI n.toNat).filter h).map D.int).all D.flat) = true := by
        rw [List.all_map, List.all_eq_true]
        intro x _
        rfl
      have hmem : ∀ p : Int, 0 ≤ p → p < n → (((rngI n.toNat).filter h).map D.int).any (deq (.int p)) = h p := fun p p0 p1 => by
        rw [any_int]
        cases e : h p with
        | true => exact decide_eq_true (List.mem_filter.mpr ⟨rngI_mem.mpr ⟨p0, by omega⟩, e⟩)
        | false => exact decide_eq_false fun z => by rw [(List.mem_filter.mp z).2] at e; cases e
      generalize hHL : ((rngI n.toNat).filter h).map D.int = HL at hflt hmem
      refine forP_map (rngI n.toNat) D.int (fun pre ρ => ∃ (u : T) (x8 x9 x10 : Option T), ρ = [some (.v (.lst (ns.map D.int))), some u, some (.v (.int t)), some (.v (.tup [.int n, asD as])), some (.v (trD C n as)), some (.v (.lst HL)), some (.v od), x7, x8, x9, x10] ∧ Pot u) ⟨_, _, _, _, rfl, hu⟩ ?_ ?_
      · rintro pre2 p post2 ρ e2 ⟨u, x8, x9, x10, rfl, hu⟩
        obtain ⟨p0, p1⟩ := rngI_mem.mp (show p ∈ rngI n.toNat by rw [e2]; simp)
        replace p1 : p < n := by omega
        have hp := hh p p0 p1
        have hm := hmem p p0 p1
        obtain ⟨ts, rfl, hu⟩ := pot_L hu
        have hw : withinB (.int p) 0 (n - 1) = true := by
          show (decide (0 ≤ p) && decide (p ≤ n - 1)) = true
          rw [decide_eq_true p0, decide_eq_true (show p ≤ n - 1 by omega)]
          rfl
        simp only [gName, List.set_cons_succ, List.set_cons_zero]
        ((try dsimp only); rw [sSeq_def]; simp only [sSet, wFrz, wCmp, wVar, slot, T.d_v, List.set_cons_succ, List.set_cons_zero, cmpW_in, inW_l, flat_i, true_and])
        refine ⟨hflt, ?_⟩
        rw [hm]
        cases e : h p with
        | true =>
          have hr := hp.mp e
          ((try dsimp only); rw [sSeq_def]; simp only [sSet, wFrz, wLst, aCons, wCallS, wD, wVar, slot, aNil, T.d_v, wCallMS, onL, List.set_cons_succ, List.set_cons_zero, ex_app2, lenk_3, List.map_cons, List.map_nil, lst_v3, true_and])
          refine ⟨n, as, 0, .int p, od, rfl, hg, okC_i, .inl hO.ok, fun z => (by rw [hw] at z; cases z), fun p' ep _ _ => ⟨fun z => absurd z (by cases ep; exact hr), fun _ => ⟨fun _ _ => ?_, fun z => absurd (z rfl) (by rw [hO.nc]; decide)⟩⟩⟩
          dsimp only
          refine ⟨30, rfl, by decide, by decide, hu, fun g u g0 g1 hu => ?_⟩
          refine ⟨n, as, 0, .int p, .int g, rfl, hg, okC_i, okC_i, fun z => (by rw [hw] at z; cases z), fun p' ep _ _ => ⟨fun z => absurd z (by cases ep; exact hr), fun _ => ⟨fun _ z => absurd z (by rw [show coinsB (.int g) = true from decide_eq_true g0]; decide), fun _ => ?_⟩⟩⟩
          refine ⟨n, as, 1, .int p, .int 0, rfl, hg, okC_i, okC_i, fun z => (by rw [hw] at z; cases z), fun p' ep _ _ => ⟨fun z => absurd z (by cases ep; exact hr), fun _ => ⟨fun z => absurd z (by decide), fun _ => ?_⟩⟩⟩
          ((try dsimp only); (try simp only [T.d_v]); rw [sSeq_def]; simp only [sIf, tVal, slot, T.v.injEq, D.bl.injEq, sNil, List.cons.injEq, Option.some.injEq, and_true, true_and, exists_eq_left', forall_const, Bool.true_eq_false, false_implies])
          have hK : eqK 1 (.lst [.str (Str.ofString "coins"), .str (Str.ofString "told"), .str (Str.ofString "told")]) := eqK_lst fun d hd => by
            simp only [List.mem_cons, List.not_mem_nil, or_false] at hd
            rcases hd with rfl | rfl | rfl <;> exact eqK_str 0 (by decide +kernel)
          refine ⟨hK.p, hK.p, ?_⟩
          rw [hK.self]
          exact ⟨fun e => absurd e (by decide), fun _ => ⟨_, _, _, _, ⟨rfl, rfl, rfl, rfl⟩, hu⟩⟩
        | false =>
          have hr : Rch as (leftF n (rankF n as)) p := Classical.byContradiction fun z => by rw [hp.mpr z] at e; cases e
          ((try dsimp only); rw [sSeq_def]; simp only [sSet, wFrz, wLst, aCons, wCallS, wD, wVar, slot, aNil, T.d_v, wCallMS, onL, List.set_cons_succ, List.set_cons_zero, ex_app2, lenk_3, List.map_cons, List.map_nil, lst_v3, true_and])
          refine ⟨n, as, 0, .int p, od, rfl, hg, okC_i, .inl hO.ok, fun z => (by rw [hw] at z; cases z), fun p' ep _ _ => ⟨fun _ => ?_, fun z => absurd (by cases ep; exact hr) z⟩⟩
          dsimp only
          refine ⟨30, rfl, by decide, by decide, hu, fun g u g0 g1 hu => ?_⟩
          refine ⟨n, as, 0, .int p, .int g, rfl, hg, okC_i, okC_i, fun z => (by rw [hw] at z; cases z), fun p' ep _ _ => ⟨fun _ => ?_, fun z => absurd (by cases ep; exact hr) z⟩⟩
          refine ⟨n, as, 1, .int p, .int 0, rfl, hg, okC_i, okC_i, fun z => (by rw [hw] at z; cases z), fun p' ep _ _ => ⟨fun _ => ?_, fun z => absurd (by cases ep; exact hr) z⟩⟩
          ((try dsimp only); (try simp only [T.d_v]); rw [sSeq_def]; simp only [sIf, tVal, slot, Bool.false_eq_true, T.v.injEq, D.bl.injEq, sNil, List.cons.injEq, Option.some.injEq, and_true, true_and, exists_eq_left', false_implies, forall_const])
          have hK : eqK 1 (.lst [.str (Str.ofString "hopeful"), .str (Str.ofString "hopeful"), .str (Str.ofString "hopeful")]) := eqK_lst fun d hd => by
            simp only [List.mem_cons, List.not_mem_nil, or_false] at hd
            rcases hd with rfl | rfl | rfl <;> exact eqK_str 0 (by decide +kernel)
          rw [show List.replicate (Int.toNat 3) (D.str (Str.ofString "hopeful")) = [.str (Str.ofString "hopeful"), .str (Str.ofString "hopeful"), .str (Str.ofString "hopeful")] from rfl]
          refine ⟨by decide, by decide, hK.p, hK.p, ?_⟩
          rw [hK.self]
          exact ⟨fun e => absurd e (by decide), fun _ => ⟨_, _, _, _, ⟨rfl, rfl, rfl, rfl⟩, hu⟩⟩
      · rintro ρ ⟨u, x8, x9, x10, rfl, hu⟩
        exact ⟨_, _, _, _, _, _, _, _, _, _, rfl, hu⟩
  · rintro ρ ⟨u, x2, x3, x4, x5, x6, x7, x8, x9, x10, rfl, hu⟩
    ((try dsimp only); rw [sSeq_def]; simp only [sRet, wD])
    exact q
theorem ln_law51 (C : Addr) (C_NoPlace : Addr) (C_NoCoins : Addr) (C_NotHopeful : Addr) : ∀ ds Q Qx, sp_law51 C C_NoPlace C_NoCoins C_NotHopeful ds Q Qx → ds.length = 1 := by rintro ds Q Qx ⟨ns, rfl, _⟩; rfl
end Vl
end
section
set_option maxRecDepth 100000
namespace Vl
open PySem L2
section
variable {P : Program} {w : World} {K : PySem.W.Frag} {mg : Str → Option Value} {base : Heap}
abbrev nt__law_pot : Stmt := topS 43
theorem ns__law_pot : FnScope ["script", "cells", "item", "greats", "smalls"] ["script"] (defScope nt__law_pot) := ⟨rfl, rfl, rfl, by decide +kernel, rfl, by decide +kernel, by decide +kernel⟩
theorem rw_pot {f : Addr} (G : Bl mg) (cdv : Value) (A : Around) (outer : List Env) (s : Shared) (H : Hp) (E : XK) (hr : Room 0 (cxD P w K mg base ["script", "cells", "item", "greats", "smalls"] "_law_pot" nt__law_pot f cdv A outer s H E).A) (g : Gd (cxD P w K mg base ["script", "cells", "item", "greats", "smalls"] "_law_pot" nt__law_pot f cdv A outer s H E)) : RfS (cxD P w K mg base ["script", "cells", "item", "greats", "smalls"] "_law_pot" nt__law_pot f cdv A outer s H E) (defBody nt__law_pot) (cd_pot) :=
 rs_cons (rs_setLcF 1 [("item", 2)] g.calm g.nd (ri_val (rf_sl (rf_var 0) (ro_nil) (ro_some (rf_int)))) (blk_of rfl) (fun _ _ _ _ _ => rk_name 2 g.nd) (fun _ _ _ _ _ => rts_nil) (fun _ _ _ _ _ => rf_callTy (fun _ _ => bInt_ok) PyProof.Rows.boot_int G.at (ra_cons (rf_var 2) (ra_nil))))
  (rs_cons (rs_setLc 3 [("item", 2)] g.calm g.nd (ri_val (rf_var 1)) (blk_of rfl) (fun _ _ _ _ _ => rk_name 2 g.nd) (fun _ _ _ _ _ => rts_one (rt_cmp g.hu (rf_callB (fun _ _ => bAbs_ok) PyProof.Rows.boot_abs G.at (ra_cons (rf_var 2) (ra_nil))) (rf_bin (rf_int) (rf_int)))) (fun _ _ _ _ _ => rf_callB (fun _ _ => bAbs_ok) PyProof.Rows.boot_abs G.at (ra_cons (rf_var 2) (ra_nil))))
  (rs_cons (rs_set 4 g (rf_frz (rf_bin (rf_lc [("item", 2)] g.calm g.nd (ri_val (rf_var 1)) (blk_of rfl) (fun _ _ _ _ _ => rk_name 2 g.nd) (fun _ _ _ _ _ => rts_one (rt_cmp g.hu (rf_callB (fun _ _ => bAbs_ok) PyProof.Rows.boot_abs G.at (ra_cons (rf_var 2) (ra_nil))) (rf_bin (rf_int) (rf_int)))) (fun _ _ _ _ _ => rf_bin (rf_callTy (fun _ _ => bInt_ok) PyProof.Rows.boot_int G.at (ra_cons (rf_var 2) (ra_nil))) (rf_int))) (rf_lst (ra_cons (rf_bin (rf_callB (fun _ _ => bLen_ok) PySem.boot_len G.at (ra_cons (rf_var 1) (ra_nil))) (rf_int)) (ra_nil))))))
  (rs_cons (rs_ret (rf_lstT (rat_cons (rf_mov 3) (rat_cons (rf_var 4) (rat_cons (rf_int) (rat_cons (rf_bin (rf_callTy (fun _ _ => bInt_ok) PyProof.Rows.boot_int G.at (ra_cons (rf_callB (fun _ _ => bSum_all g.calm) PyProof.Rows.boot_sum G.at (ra_cons (rf_var 4) (ra_nil))) (ra_nil))) (rf_int)) (rat_nil)))))))
  (rs_nil))))
theorem fw_pot {f : Addr} {fd : FuncData} (F : Fun K "_law_pot" "_law_pot" nt__law_pot f fd) (hm : mg "_law_pot" = some (.ref f)) (hb : Binds K fd ["script"] []) (G : Bl mg) : Fn P w K mg base 1 "_law_pot" (prOf (sp_pot)) := fn_w F ns__law_pot hm hb (by decide) (ln_pot) (fun cdv A outer s H E hr => rw_pot G cdv A outer s H E hr (gd_of ns__law_pot hr)) (wp_pot)
abbrev nt__law_draw : Stmt := topS 44
theorem ns__law_draw : FnScope ["pot", "many", "turn", "number", "seed"] ["pot", "many"] (defScope nt__law_draw) := ⟨rfl, rfl, rfl, by decide +kernel, rfl, by decide +kernel, by decide +kernel⟩
theorem rw_pdraw {f : Addr} (G : Bl mg) (cdv : Value) (A : Around) (outer : List Env) (s : Shared) (H : Hp) (E : XK) (hr : Room 0 (cxD P w K mg base ["pot", "many", "turn", "number", "seed"] "_law_draw" nt__law_draw f cdv A outer s H E).A) (g : Gd (cxD P w K mg base ["pot", "many", "turn", "number", "seed"] "_law_draw" nt__law_draw f cdv A outer s H E)) : RfS (cxD P w K mg base ["pot", "many", "turn", "number", "seed"] "_law_draw" nt__law_draw f cdv A outer s H E) (defBody nt__law_draw) (cd_pdraw) :=
 rs_cons (rs_set 2 g (rf_frz (rf_ixO 0 (rf_int))))
  (rs_cons (rs_put 0 (rf_frz (rf_bin (rf_var 2) (rf_int))) (rf_int))
  (rs_cons (rs_if (rt_cmp g.hu (rf_lenOO 0 G.at) (rf_int)) (rs_cons (rs_set 3 g (rf_frz (rf_ixOO 0)))
  (rs_cons (rs_putOO 0 (rf_frz (rf_bin (rf_var 3) (rf_var 1))))
  (rs_cons (rs_if (rt_cmp g.hu (rf_var 3) (rf_var 1)) (rs_cons (rs_popOO 0)
  (rs_nil)) (rs_nil))
  (rs_cons (rs_ret (rf_bin (rf_callTy (fun _ _ => bInt_ok) PyProof.Rows.boot_int G.at (ra_cons (rf_var 3) (ra_nil))) (rf_var 1)))
  (rs_nil))))) (rs_nil))
  (rs_cons (rs_set 4 g (rf_frz (rf_bin (rf_bin (rf_bin (rf_ix g.hu (rf_ixO 0 (rf_int)) (rf_bin (rf_callTy (fun _ _ => bInt_ok) PyProof.Rows.boot_int G.at (ra_cons (rf_var 2) (ra_nil))) (rf_callB (fun _ _ => bLen_ok) PySem.boot_len G.at (ra_cons (rf_ixO 0 (rf_int)) (ra_nil))))) (rf_int)) (rf_bin (rf_int) (rf_var 2))) (rf_bin (rf_ixO 0 (rf_int)) (rf_int)))))
  (rs_cons (rs_set 3 g (rf_frz (rf_bin (rf_callTy (fun _ _ => bInt_ok) PyProof.Rows.boot_int G.at (ra_cons (rf_bin (rf_bin (rf_var 4) (rf_int)) (rf_int)) (ra_nil))) (rf_int))))
  (rs_cons (rs_set 3 g (rf_frz (rf_bin (rf_callTy (fun _ _ => bInt_ok) PyProof.Rows.boot_int G.at (ra_cons (rf_bin (rf_var 3) (rf_bin (rf_bin (rf_var 3) (rf_int)) (rf_int))) (ra_nil))) (rf_int))))
  (rs_cons (rs_set 3 g (rf_frz (rf_bin (rf_callTy (fun _ _ => bInt_ok) PyProof.Rows.boot_int G.at (ra_cons (rf_bin (rf_bin (rf_var 3) (rf_bin (rf_bin (rf_var 3) (rf_int)) (rf_int))) (rf_var 2)) (ra_nil))) (rf_int))))
  (rs_cons (rs_ret (rf_bin (rf_callTy (fun _ _ => bInt_ok) PyProof.Rows.boot_int G.at (ra_cons (rf_bin (rf_var 3) (rf_int)) (ra_nil))) (rf_var 1)))
  (rs_nil))))))))
theorem fw_pdraw {f : Addr} {fd : FuncData} (F : Fun K "_law_draw" "_law_draw" nt__law_draw f fd) (hm : mg "_law_draw" = some (.ref f)) (hb : Binds K fd ["pot", "many"] []) (G : Bl mg) : Fn P w K mg base 1 "_law_draw" (prM (sp_pdraw)) := fn_wM F ns__law_draw hm hb (by decide) (ln_pdraw) (fun cdv A outer s H E hr => rw_pdraw G cdv A outer s H E hr (gd_of ns__law_draw hr)) (wp_pdraw)
abbrev nt__law_parts : Stmt := topS 46
theorem ns__law_parts : FnScope ["pot", "most_places", "most_letters", "most_pay", "places", "kind", "arrows", "place", "many", "shift", "k", "pay", "goal"] ["pot", "most_places", "most_letters", "most_pay"] (defScope nt__law_parts) := ⟨rfl, rfl, rfl, by decide +kernel, rfl, by decide +kernel, by decide +kernel⟩
theorem rw_lparts {f : Addr} (G : Bl mg) (F__law_draw : Fn P w K mg base 1 "_law_draw" (prM (sp_pdraw))) (cdv : Value) (A : Around) (outer : List Env) (s : Shared) (H : Hp) (E : XK) (hr : Room 1 (cxD P w K mg base ["pot", "most_places", "most_letters", "most_pay", "places", "kind", "arrows", "place", "many", "shift", "k", "pay", "goal"] "_law_parts" nt__law_parts f cdv A outer s H E).A) (g : Gd (cxD P w K mg base ["pot", "most_places", "most_letters", "most_pay", "places", "kind", "arrows", "place", "many", "shift", "k", "pay", "goal"] "_law_parts" nt__law_parts f cdv A outer s H E)) : RfS (cxD P w K mg base ["pot", "most_places", "most_letters", "most_pay", "places", "kind", "arrows", "place", "many", "shift", "k", "pay", "goal"] "_law_parts" nt__law_parts f cdv A outer s H E) (defBody nt__law_parts) (cd_lparts) :=
 rs_cons (rs_set 4 g (rf_frz (rf_bin (rf_int) (rf_callMS 0 F__law_draw (hr.mono (by decide)) (ra_cons (rf_var 1) (ra_nil))))))
  (rs_cons (rs_set 5 g (rf_frz (rf_callMS 0 F__law_draw (hr.mono (by decide)) (ra_cons (rf_int) (ra_nil)))))
  (rs_cons (rs_set 6 g (rf_lst (ra_nil)))
  (rs_cons (rs_for g (ri_range1 (ra_cons (rf_var 4) (ra_nil)) G.at) (rg_name 7 g) (rs_cons (rs_set 8 g (rf_frz (rf_bin (rf_int) (rf_callMS 0 F__law_draw (hr.mono (by decide)) (ra_cons (rf_var 2) (ra_nil))))))
  (rs_cons (rs_set 9 g (rf_frz (rf_callMS 0 F__law_draw (hr.mono (by decide)) (ra_cons (rf_int) (ra_nil)))))
  (rs_cons (rs_for g (ri_range1 (ra_cons (rf_var 8) (ra_nil)) G.at) (rg_name 10 g) (rs_cons (rs_set 11 g (rf_frz (rf_callMS 0 F__law_draw (hr.mono (by decide)) (ra_cons (rf_bin (rf_var 3) (rf_int)) (ra_nil)))))
  (rs_cons (rs_if (rt_cmp g.hu (rf_var 5) (rf_int)) (rs_cons (rs_set 11 g (rf_frz (rf_callB (fun _ _ => bMax2_ok g.calm) PyProof.Rows.boot_max G.at (ra_cons (rf_var 11) (ra_cons (rf_callB (fun _ _ => bMin2_ok g.calm) PyProof.Rows.boot_min G.at (ra_cons (rf_var 3) (ra_cons (rf_bin (rf_var 8) (rf_callMS 0 F__law_draw (hr.mono (by decide)) (ra_cons (rf_int) (ra_nil)))) (ra_nil)))) (ra_nil))))))
  (rs_nil)) (rs_nil))
  (rs_cons (rs_set 12 g (rf_frz (rf_callMS 0 F__law_draw (hr.mono (by decide)) (ra_cons (rf_var 4) (ra_nil)))))
  (rs_cons (rs_if (rt_cmp g.hu (rf_var 5) (rf_int)) (rs_cons (rs_set 12 g (rf_frz (rf_ix g.hu (rf_tup (ra_cons (rf_var 7) (ra_cons (rf_callB (fun _ _ => bMin2_ok g.calm) PyProof.Rows.boot_min G.at (ra_cons (rf_bin (rf_var 4) (rf_int)) (ra_cons (rf_bin (rf_var 7) (rf_int)) (ra_nil)))) (ra_nil)))) (rf_callMS 0 F__law_draw (hr.mono (by decide)) (ra_cons (rf_int) (ra_nil))))))
  (rs_nil)) (rs_nil))
  (rs_cons (rs_append 6 (rf_frz (rf_tup (ra_cons (rf_var 7) (ra_cons (rf_ix g.hu (rf_str) (rf_bin (rf_callTy (fun _ _ => bInt_ok) PyProof.Rows.boot_int G.at (ra_cons (rf_bin (rf_var 10) (rf_var 9)) (ra_nil))) (rf_int))) (ra_cons (rf_var 11) (ra_cons (rf_var 12) (ra_nil))))))))
  (rs_nil)))))))
  (rs_nil)))))
  (rs_cons (rs_ret (rf_tup (ra_cons (rf_var 4) (ra_cons (rf_tuple G.at (rf_callB (fun _ _ => bSort_ok) PyProof.Rows.boot_sorted G.at (ra_cons (rf_var 6) (ra_nil)))) (ra_nil)))))
  (rs_nil)))))
theorem fw_lparts {f : Addr} {fd : FuncData} (F : Fun K "_law_parts" "_law_parts" nt__law_parts f fd) (hm : mg "_law_parts" = some (.ref f)) (hb : Binds K fd ["pot", "most_places", "most_letters", "most_pay"] []) (G : Bl mg) (F__law_draw : Fn P w K mg base 1 "_law_draw" (prM (sp_pdraw))) : Fn P w K mg base 2 "_law_parts" (prM (sp_lparts)) := fn_wM F ns__law_parts hm hb (by decide) (ln_lparts) (fun cdv A outer s H E hr => rw_lparts G F__law_draw cdv A outer s H E hr (gd_of ns__law_parts hr)) (wp_lparts)
abbrev nt__law_steps : Stmt := topS 47
theorem ns__law_steps : FnScope ["parts", "place", "start", "letter", "pay", "goal"] ["parts", "place"] (defScope nt__law_steps) := ⟨rfl, rfl, rfl, by decide +kernel, rfl, by decide +kernel, by decide +kernel⟩
theorem rw_psteps {f : Addr} (G : Bl mg) (cdv : Value) (A : Around) (outer : List Env) (s : Shared) (H : Hp) (E : XK) (hr : Room 0 (cxD P w K mg base ["parts", "place", "start", "letter", "pay", "goal"] "_law_steps" nt__law_steps f cdv A outer s H E).A) (g : Gd (cxD P w K mg base ["parts", "place", "start", "letter", "pay", "goal"] "_law_steps" nt__law_steps f cdv A outer s H E)) : RfS (cxD P w K mg base ["parts", "place", "start", "letter", "pay", "goal"] "_law_steps" nt__law_steps f cdv A outer s H E) (defBody nt__law_steps) (cd_psteps) :=
 rs_cons (rs_ret (rf_lc [("start", 2), ("letter", 3), ("pay", 4), ("goal", 5)] g.calm g.nd (ri_val (rf_ix g.hu (rf_var 0) (rf_int))) (blk_of rfl) (fun _ _ _ _ _ => rk_tup g.calm (rks_cons (rk_name 2 g.nd) (rks_cons (rk_name 3 g.nd) (rks_cons (rk_name 4 g.nd) (rks_cons (rk_name 5 g.nd) (rks_nil)))))) (fun _ _ _ _ _ => rts_one (rt_cmp g.hu (rf_var 2) (rf_var 1))) (fun _ _ _ _ _ => rf_tup (ra_cons (rf_var 3) (ra_cons (rf_var 4) (ra_cons (rf_var 5) (ra_nil)))))))
  (rs_nil)
theorem fw_psteps {f : Addr} {fd : FuncData} (F : Fun K "_law_steps" "_law_steps" nt__law_steps f fd) (hm : mg "_law_steps" = some (.ref f)) (hb : Binds K fd ["parts", "place"] []) (G : Bl mg) : Fn P w K mg base 1 "_law_steps" (prOf (sp_psteps)) := fn_w F ns__law_steps hm hb (by decide) (ln_psteps) (fun cdv A outer s H E hr => rw_psteps G cdv A outer s H E hr (gd_of ns__law_steps hr)) (wp_psteps)
abbrev nt__law_ranks : Stmt := topS 48
theorem ns__law_ranks : FnScope ["parts", "found", "turn", "struck", "place", "some", "letter", "pay", "goal"] ["parts"] (defScope nt__law_ranks) := ⟨rfl, rfl, rfl, by decide +kernel, rfl, by decide +kernel, by decide +kernel⟩
theorem rw_lranks47 {f : Addr} (G : Bl mg) (F__law_steps : Fn P w K mg base 1 "_law_steps" (prOf (sp_psteps))) (cdv : Value) (A : Around) (outer : List Env) (s : Shared) (H : Hp) (E : XK) (hr : Room 1 (cxD P w K mg base ["parts", "found", "turn", "struck", "place", "some", "letter", "pay", "goal"] "_law_ranks" nt__law_ranks f cdv A outer s H E).A) (g : Gd (cxD P w K mg base ["parts", "found", "turn", "struck", "place", "some", "letter", "pay", "goal"] "_law_ranks" nt__law_ranks f cdv A outer s H E)) : RfS (cxD P w K mg base ["parts", "found", "turn", "struck", "place", "some", "letter", "pay", "goal"] "_law_ranks" nt__law_ranks f cdv A outer s H E) (defBody nt__law_ranks) (cd_lranks47) :=
 rs_cons (rs_set 1 g (rf_rep (rf_non) (rf_ix g.hu (rf_var 0) (rf_int))))
  (rs_cons (rs_for g (ri_range2 (ra_cons (rf_int) (ra_cons (rf_bin (rf_ix g.hu (rf_var 0) (rf_int)) (rf_int)) (ra_nil))) G.at) (rg_name 2 g) (rs_cons (rs_set 3 g (rf_lst (ra_nil)))
  (rs_cons (rs_for g (ri_range1 (ra_cons (rf_ix g.hu (rf_var 0) (rf_int)) (ra_nil)) G.at) (rg_name 4 g) (rs_cons (rs_if (rt_cmp g.hu (rf_ixO 1 (rf_var 4)) (rf_non)) (rs_cons (rs_setLcF 5 [("letter", 6), ("pay", 7), ("goal", 8)] g.calm g.nd (ri_val (rf_callS F__law_steps (hr.mono (by decide)) (ra_cons (rf_var 0) (ra_cons (rf_var 4) (ra_nil))))) (blk_of rfl) (fun _ _ _ _ _ => rk_tup g.calm (rks_cons (rk_name 6 g.nd) (rks_cons (rk_name 7 g.nd) (rks_cons (rk_name 8 g.nd) (rks_nil))))) (fun _ _ _ _ _ => rts_one (rt_cmp g.hu (rf_ixO 1 (rf_var 8)) (rf_non))) (fun _ _ _ _ _ => rf_callB (fun _ _ => bMax2_ok g.calm) PyProof.Rows.boot_max G.at (ra_cons (rf_int) (ra_cons (rf_var 7) (ra_nil)))))
  (rs_cons (rs_if (rt_cmp g.hu (rf_callB (fun _ _ => bSum_all g.calm) PyProof.Rows.boot_sum G.at (ra_cons (rf_lc [("pay", 7)] g.calm g.nd (ri_val (rf_var 5)) (blk_of rfl) (fun _ _ _ _ _ => rk_name 7 g.nd) (fun _ _ _ _ _ => rts_nil) (fun _ _ _ _ _ => rf_bin (rf_int) (rf_var 7))) (ra_nil))) (rf_int)) (rs_cons (rs_append 3 (rf_frz (rf_var 4)))
  (rs_nil)) (rs_nil))
  (rs_nil))) (rs_nil))
  (rs_nil)))
  (rs_cons (rs_for g (ri_val (rf_var 3)) (rg_name 4 g) (rs_cons (rs_put 1 (rf_frz (rf_var 2)) (rf_var 4))
  (rs_nil)))
  (rs_nil)))))
  (rs_cons (rs_ret (rf_mov 1))
  (rs_nil)))
theorem fw_lranks47 {f : Addr} {fd : FuncData} (F : Fun K "_law_ranks" "_law_ranks" nt__law_ranks f fd) (hm : mg "_law_ranks" = some (.ref f)) (hb : Binds K fd ["parts"] []) (G : Bl mg) (F__law_steps : Fn P w K mg base 1 "_law_steps" (prOf (sp_psteps))) : Fn P w K mg base 2 "_law_ranks" (prOf (sp_lranks47)) := fn_w F ns__law_ranks hm hb (by decide) (ln_lranks47) (fun cdv A outer s H E hr => rw_lranks47 G F__law_steps cdv A outer s H E hr (gd_of ns__law_ranks hr)) (wp_lranks47)
abbrev nt__law_reached : Stmt := topS 49
theorem ns__law_reached : FnScope ["parts", "place", "found", "turn", "there", "letter", "pay", "goal"] ["parts", "place"] (defScope nt__law_reached) := ⟨rfl, rfl, rfl, by decide +kernel, rfl, by decide +kernel, by decide +kernel⟩
theorem rw_lreached47 {f : Addr} (G : Bl mg) (F__law_steps : Fn P w K mg base 1 "_law_steps" (prOf (sp_psteps))) (cdv : Value) (A : Around) (outer : List Env) (s : Shared) (H : Hp) (E : XK) (hr : Room 1 (cxD P w K mg base ["parts", "place", "found", "turn", "there", "letter", "pay", "goal"] "_law_reached" nt__law_reached f cdv A outer s H E).A) (g : Gd (cxD P w K mg base ["parts", "place", "found", "turn", "there", "letter", "pay", "goal"] "_law_reached" nt__law_reached f cdv A outer s H E)) : RfS (cxD P w K mg base ["parts", "place", "found", "turn", "there", "letter", "pay", "goal"] "_law_reached" nt__law_reached f cdv A outer s H E) (defBody nt__law_reached) (cd_lreached47) :=
 rs_cons (rs_set 2 g (rf_lst (ra_cons (rf_var 1) (ra_nil))))
  (rs_cons (rs_for g (ri_range1 (ra_cons (rf_ix g.hu (rf_var 0) (rf_int)) (ra_nil)) G.at) (rg_name 3 g) (rs_cons (rs_for g (ri_val (rf_lendE false 2 (rf_callTy (fun _ _ => bList_ok) PyProof.Rows.boot_list G.at (ra_cons (rf_var 2) (ra_nil))))) (rg_name 4 g) (rs_cons (rs_for g (ri_val (rf_callS F__law_steps (hr.mono (by decide)) (ra_cons (rf_var 0) (ra_cons (rf_var 4) (ra_nil))))) (rg_tup g (rgs_cons (rg_name 5 g) (rgs_cons (rg_name 6 g) (rgs_cons (rg_name 7 g) (rgs_nil))))) (rs_cons (rs_if (rt_notinO 2 (rf_var 7)) (rs_cons (rs_append 2 (rf_frz (rf_var 7)))
  (rs_nil)) (rs_nil))
  (rs_nil)))
  (rs_nil)))
  (rs_nil)))
  (rs_cons (rs_ret (rf_mov 2))
  (rs_nil)))
theorem fw_lreached47 {f : Addr} {fd : FuncData} (F : Fun K "_law_reached" "_law_reached" nt__law_reached f fd) (hm : mg "_law_reached" = some (.ref f)) (hb : Binds K fd ["parts", "place"] []) (G : Bl mg) (F__law_steps : Fn P w K mg base 1 "_law_steps" (prOf (sp_psteps))) : Fn P w K mg base 2 "_law_reached" (prOf (sp_lreached47)) := fn_w F ns__law_reached hm hb (by decide) (ln_lreached47) (fun cdv A outer s H E hr => rw_lreached47 G F__law_steps cdv A outer s H E hr (gd_of ns__law_reached hr)) (wp_lreached47)
abbrev nt__law_hopeful : Stmt := topS 50
theorem ns__law_hopeful : FnScope ["parts", "ranks_v", "place", "there"] ["parts"] (defScope nt__law_hopeful) := ⟨rfl, rfl, rfl, by decide +kernel, rfl, by decide +kernel, by decide +kernel⟩
theorem rw_lhopeful47 {f : Addr} (G : Bl mg) (F__law_ranks : Fn P w K mg base 2 "_law_ranks" (prOf (sp_lranks47))) (F__law_reached : Fn P w K mg base 2 "_law_reached" (prOf (sp_lreached47))) (cdv : Value) (A : Around) (outer : List Env) (s : Shared) (H : Hp) (E : XK) (hr : Room 2 (cxD P w K mg base ["parts", "ranks_v", "place", "there"] "_law_hopeful" nt__law_hopeful f cdv A outer s H E).A) (g : Gd (cxD P w K mg base ["parts", "ranks_v", "place", "there"] "_law_hopeful" nt__law_hopeful f cdv A outer s H E)) : RfS (cxD P w K mg base ["parts", "ranks_v", "place", "there"] "_law_hopeful" nt__law_hopeful f cdv A outer s H E) (defBody nt__law_hopeful) (cd_lhopeful47) :=
 rs_cons (rs_set 1 g (rf_frz (rf_callS F__law_ranks (hr.mono (by decide)) (ra_cons (rf_var 0) (ra_nil)))))
  (rs_cons (rs_ret (rf_lc [("place", 2)] g.calm g.nd (ri_range1 (ra_cons (rf_ix g.hu (rf_var 0) (rf_int)) (ra_nil)) G.at) (blk_of rfl) (fun _ _ _ _ _ => rk_name 2 g.nd) (fun _ _ _ _ _ => rts_one (rt_cmp g.hu (rf_non) (rf_lc [("there", 3)] g.calm g.nd (ri_val (rf_callS F__law_reached (hr.mono (by decide)) (ra_cons (rf_var 0) (ra_cons (rf_var 2) (ra_nil))))) (blk_of rfl) (fun _ _ _ _ _ => rk_name 3 g.nd) (fun _ _ _ _ _ => rts_nil) (fun _ _ _ _ _ => rf_ix g.hu (rf_var 1) (rf_var 3))))) (fun _ _ _ _ _ => rf_var 2)))
  (rs_nil))
theorem fw_lhopeful47 {f : Addr} {fd : FuncData} (F : Fun K "_law_hopeful" "_law_hopeful" nt__law_hopeful f fd) (hm : mg "_law_hopeful" = some (.ref f)) (hb : Binds K fd ["parts"] []) (G : Bl mg) (F__law_ranks : Fn P w K mg base 2 "_law_ranks" (prOf (sp_lranks47))) (F__law_reached : Fn P w K mg base 2 "_law_reached" (prOf (sp_lreached47))) : Fn P w K mg base 3 "_law_hopeful" (prOf (sp_lhopeful47)) := fn_w F ns__law_hopeful hm hb (by decide) (ln_lhopeful47) (fun cdv A outer s H E hr => rw_lhopeful47 G F__law_ranks F__law_reached cdv A outer s H E hr (gd_of ns__law_hopeful hr)) (wp_lhopeful47)
abbrev nt__law_any : Stmt := topS 45
theorem ns__law_any : FnScope ["pot", "items"] ["pot", "items"] (defScope nt__law_any) := ⟨rfl, rfl, rfl, by decide +kernel, rfl, by decide +kernel, by decide +kernel⟩
theorem rw_lany51 {f : Addr} (G : Bl mg) (F__law_draw : Fn P w K mg base 1 "_law_draw" (prM (sp_pdraw))) (cdv : Value) (A : Around) (outer : List Env) (s : Shared) (H : Hp) (E : XK) (hr : Room 1 (cxD P w K mg base ["pot", "items"] "_law_any" nt__law_any f cdv A outer s H E).A) (g : Gd (cxD P w K mg base ["pot", "items"] "_law_any" nt__law_any f cdv A outer s H E)) : RfS (cxD P w K mg base ["pot", "items"] "_law_any" nt__law_any f cdv A outer s H E) (defBody nt__law_any) (cd_lany51) :=
 rs_cons (rs_ret (rf_ix g.hu (rf_var 1) (rf_callMS 0 F__law_draw (hr.mono (by decide)) (ra_cons (rf_callB (fun _ _ => bLen_ok) PySem.boot_len G.at (ra_cons (rf_var 1) (ra_nil))) (ra_nil)))))
  (rs_nil)
theorem fw_lany51 {f : Addr} {fd : FuncData} (F : Fun K "_law_any" "_law_any" nt__law_any f fd) (hm : mg "_law_any" = some (.ref f)) (hb : Binds K fd ["pot", "items"] []) (G : Bl mg) (F__law_draw : Fn P w K mg base 1 "_law_draw" (prM (sp_pdraw))) : Fn P w K mg base 2 "_law_any" (prM (sp_lany51)) := fn_wM F ns__law_any hm hb (by decide) (ln_lany51) (fun cdv A outer s H E hr => rw_lany51 G F__law_draw cdv A outer s H E hr (gd_of ns__law_any hr)) (wp_lany51)
abbrev nt__law_deep : Stmt := topS 51
theorem ns__law_deep : FnScope ["pot", "thing", "turn"] ["pot"] (defScope nt__law_deep) := ⟨rfl, rfl, rfl, by decide +kernel, rfl, by decide +kernel, by decide +kernel⟩
theorem rw_ldeep51 {f : Addr} (G : Bl mg) (F__law_any : Fn P w K mg base 2 "_law_any" (prM (sp_lany51))) (F__law_draw : Fn P w K mg base 1 "_law_draw" (prM (sp_pdraw))) (cdv : Value) (A : Around) (outer : List Env) (s : Shared) (H : Hp) (E : XK) (hr : Room 2 (cxD P w K mg base ["pot", "thing", "turn"] "_law_deep" nt__law_deep f cdv A outer s H E).A) (g : Gd (cxD P w K mg base ["pot", "thing", "turn"] "_law_deep" nt__law_deep f cdv A outer s H E)) : RfS (cxD P w K mg base ["pot", "thing", "turn"] "_law_deep" nt__law_deep f cdv A outer s H E) (defBody nt__law_deep) (cd_ldeep51) :=
 rs_cons (rs_set 1 g (rf_frz (rf_callMS 0 F__law_any (hr.mono (by decide)) (ra_cons (rf_tup (ra_cons (rf_tup (ra_nil)) (ra_cons (rf_int) (ra_cons (rf_non) (ra_cons (rf_str) (ra_nil)))))) (ra_nil)))))
  (rs_cons (rs_for g (ri_range1 (ra_cons (rf_int) (ra_nil)) G.at) (rg_name 2 g) (rs_cons (rs_set 1 g (rf_frz (rf_if (rt_cmp g.hu (rf_callMS 0 F__law_draw (hr.mono (by decide)) (ra_cons (rf_int) (ra_nil))) (rf_int)) (rf_tup (ra_cons (rf_var 1) (ra_nil))) (rf_lst (ra_cons (rf_var 1) (ra_nil))))))
  (rs_nil)))
  (rs_cons (rs_ret (rf_var 1))
  (rs_nil)))
theorem fw_ldeep51 {f : Addr} {fd : FuncData} (F : Fun K "_law_deep" "_law_deep" nt__law_deep f fd) (hm : mg "_law_deep" = some (.ref f)) (hb : Binds K fd ["pot"] []) (G : Bl mg) (F__law_any : Fn P w K mg base 2 "_law_any" (prM (sp_lany51))) (F__law_draw : Fn P w K mg base 1 "_law_draw" (prM (sp_pdraw))) : Fn P w K mg base 3 "_law_deep" (prM (sp_ldeep51)) := fn_wM F ns__law_deep hm hb (by decide) (ln_ldeep51) (fun cdv A outer s H E hr => rw_ldeep51 G F__law_any F__law_draw cdv A outer s H E hr (gd_of ns__law_deep hr)) (wp_ldeep51)
abbrev nt_is_integer : Stmt := topS 7
theorem ns_is_integer : FnScope ["thing"] ["thing"] (defScope nt_is_integer) := ⟨rfl, rfl, rfl, by decide +kernel, rfl, by decide +kernel, by decide +kernel⟩
theorem rw_isint {f : Addr} {C : Addr} (G : Bl mg) (T1 : ClsI K C) (cdv : Value) (A : Around) (outer : List Env) (s : Shared) (H : Hp) (E : XK) (hr : Room 0 (cxD P w K mg base ["thing"] "is_integer" nt_is_integer f cdv A outer s H E).A) (g : Gd (cxD P w K mg base ["thing"] "is_integer" nt_is_integer f cdv A outer s H E)) : RfS (cxD P w K mg base ["thing"] "is_integer" nt_is_integer f cdv A outer s H E) (defBody nt_is_integer) (cd_isint C) :=
 rs_cons (rs_ret (rf_and (rf_isiC T1 (.inl rfl) PyProof.Rows.boot_int G.at G.at (rf_var 0)) (rf_one (rf_not (rf_isiC T1 (.inr (.inl rfl)) PyProof.Rows.boot_bool G.at G.at (rf_var 0))))))
  (rs_nil)
theorem fw_isint {f : Addr} {fd : FuncData} (F : Fun K "is_integer" "is_integer" nt_is_integer f fd) (hm : mg "is_integer" = some (.ref f)) (hb : Binds K fd ["thing"] []) {C : Addr} (G : Bl mg) (T1 : ClsI K C) : Fn P w K mg base 1 "is_integer" (prOf (sp_isint C)) := fn_w F ns_is_integer hm hb (by decide) (ln_isint C) (fun cdv A outer s H E hr => rw_isint G T1 cdv A outer s H E hr (gd_of ns_is_integer hr)) (wp_isint C)
abbrev nt_is_within : Stmt := topS 8
theorem ns_is_within : FnScope ["thing", "low", "high"] ["thing", "low", "high"] (defScope nt_is_within) := ⟨rfl, rfl, rfl, by decide +kernel, rfl, by decide +kernel, by decide +kernel⟩
theorem rw_within {f : Addr} {C : Addr} (G : Bl mg) (F_is_integer : Fn P w K mg base 1 "is_integer" (prOf (sp_isint C))) (cdv : Value) (A : Around) (outer : List Env) (s : Shared) (H : Hp) (E : XK) (hr : Room 1 (cxD P w K mg base ["thing", "low", "high"] "is_within" nt_is_within f cdv A outer s H E).A) (g : Gd (cxD P w K mg base ["thing", "low", "high"] "is_within" nt_is_within f cdv A outer s H E)) : RfS (cxD P w K mg base ["thing", "low", "high"] "is_within" nt_is_within f cdv A outer s H E) (defBody nt_is_within) (cd_within C) :=
 rs_cons (rs_ret (rf_and (rf_callS F_is_integer (hr.mono (by decide)) (ra_cons (rf_var 0) (ra_nil))) (rf_one (rf_chain g.hu (rf_var 1) (rf_var 0) (rf_var 2)))))
  (rs_nil)
theorem fw_within {f : Addr} {fd : FuncData} (F : Fun K "is_within" "is_within" nt_is_within f fd) (hm : mg "is_within" = some (.ref f)) (hb : Binds K fd ["thing", "low", "high"] []) {C : Addr} (G : Bl mg) (F_is_integer : Fn P w K mg base 1 "is_integer" (prOf (sp_isint C))) : Fn P w K mg base 2 "is_within" (prOf (sp_within C)) := fn_w F ns_is_within hm hb (by decide) (ln_within C) (fun cdv A outer s H E hr => rw_within G F_is_integer cdv A outer s H E hr (gd_of ns_is_within hr)) (wp_within C)
abbrev nt_is_place : Stmt := topS 13
theorem ns_is_place : FnScope ["track", "thing"] ["track", "thing"] (defScope nt_is_place) := ⟨rfl, rfl, rfl, by decide +kernel, rfl, by decide +kernel, by decide +kernel⟩
theorem rw_is_place {f : Addr} {C : Addr} (G : Bl mg) (T0 : Tc K C) (F_is_within : Fn P w K mg base 2 "is_within" (prOf (sp_within C))) (cdv : Value) (A : Around) (outer : List Env) (s : Shared) (H : Hp) (E : XK) (hr : Room 2 (cxD P w K mg base ["track", "thing"] "is_place" nt_is_place f cdv A outer s H E).A) (g : Gd (cxD P w K mg base ["track", "thing"] "is_place" nt_is_place f cdv A outer s H E)) : RfS (cxD P w K mg base ["track", "thing"] "is_place" nt_is_place f cdv A outer s H E) (defBody nt_is_place) (cd_is_place C) :=
 rs_cons (rs_ret (rf_callS F_is_within (hr.mono (by decide)) (ra_cons (rf_var 1) (ra_cons (rf_int) (ra_cons (rf_bin (rf_fld T0.cls T0.np (rf_var 0)) (rf_int)) (ra_nil))))))
  (rs_nil)
theorem fw_is_place {f : Addr} {fd : FuncData} (F : Fun K "is_place" "is_place" nt_is_place f fd) (hm : mg "is_place" = some (.ref f)) (hb : Binds K fd ["track", "thing"] []) {C : Addr} (G : Bl mg) (T0 : Tc K C) (F_is_within : Fn P w K mg base 2 "is_within" (prOf (sp_within C))) : Fn P w K mg base 3 "is_place" (prOf (sp_is_place C)) := fn_w F ns_is_place hm hb (by decide) (ln_is_place C) (fun cdv A outer s H E hr => rw_is_place G T0 F_is_within cdv A outer s H E hr (gd_of ns_is_place hr)) (wp_is_place C)
abbrev nt_check_place : Stmt := topS 14
theorem ns_check_place : FnScope ["track", "place"] ["track", "place"] (defScope nt_check_place) := ⟨rfl, rfl, rfl, by decide +kernel, rfl, by decide +kernel, by decide +kernel⟩
theorem rw_chkplaceR {f : Addr} {C : Addr} {C_NoPlace : Addr} (G : Bl mg) (X_NoPlace : Ex0 P w K mg base "NoPlace" C_NoPlace) (F_is_place : Fn P w K mg base 3 "is_place" (prOf (sp_is_place C))) (cdv : Value) (A : Around) (outer : List Env) (s : Shared) (H : Hp) (E : XK) (hr : Room 3 (cxD P w K mg base ["track", "place"] "check_place" nt_check_place f cdv A outer s H E).A) (g : Gd (cxD P w K mg base ["track", "place"] "check_place" nt_check_place f cdv A outer s H E)) : RfS (cxD P w K mg base ["track", "place"] "check_place" nt_check_place f cdv A outer s H E) (defBody nt_check_place) (cd_chkplaceR C C_NoPlace) :=
 rs_cons (rs_if (rt_not (rt_val (rf_callS F_is_place (hr.mono (by decide)) (ra_cons (rf_var 0) (ra_cons (rf_var 1) (ra_nil)))))) (rs_cons (rs_raise0 g.calm X_NoPlace (hr.mono (by decide)))
  (rs_nil)) (rs_nil))
  (rs_nil)
theorem fw_chkplaceR {f : Addr} {fd : FuncData} (F : Fun K "check_place" "check_place" nt_check_place f fd) (hm : mg "check_place" = some (.ref f)) (hb : Binds K fd ["track", "place"] []) {C : Addr} {C_NoPlace : Addr} (G : Bl mg) (X_NoPlace : Ex0 P w K mg base "NoPlace" C_NoPlace) (F_is_place : Fn P w K mg base 3 "is_place" (prOf (sp_is_place C))) : Fn P w K mg base 4 "check_place" (prOf (sp_chkplaceR C C_NoPlace)) := fn_w F ns_check_place hm hb (by decide) (ln_chkplaceR C C_NoPlace) (fun cdv A outer s H E hr => rw_chkplaceR G X_NoPlace F_is_place cdv A outer s H E hr (gd_of ns_check_place hr)) (wp_chkplaceR C C_NoPlace)
abbrev nt_steps_to : Stmt := topS 17
theorem ns_steps_to : FnScope ["ways", "goals", "before", "_", "here", "to", "steps", "level", "count", "behind", "place"] ["ways", "goals"] (defScope nt_steps_to) := ⟨rfl, rfl, rfl, by decide +kernel, rfl, by decide +kernel, by decide +kernel⟩
theorem rw_steps_to {f : Addr} (G : Bl mg) (cdv : Value) (A : Around) (outer : List Env) (s : Shared) (H : Hp) (E : XK) (hr : Room 0 (cxD P w K mg base ["ways", "goals", "before", "_", "here", "to", "steps", "level", "count", "behind", "place"] "steps_to" nt_steps_to f cdv A outer s H E).A) (g : Gd (cxD P w K mg base ["ways", "goals", "before", "_", "here", "to", "steps", "level", "count", "behind", "place"] "steps_to" nt_steps_to f cdv A outer s H E)) : RfS (cxD P w K mg base ["ways", "goals", "before", "_", "here", "to", "steps", "level", "count", "behind", "place"] "steps_to" nt_steps_to f cdv A outer s H E) (defBody nt_steps_to) (cd_steps_to) :=
 rs_cons (rs_setLc 2 [("_", 3)] g.calm g.nd (ri_range1 (ra_cons (rf_callB (fun _ _ => bLen_ok) PySem.boot_len G.at (ra_cons (rf_var 0) (ra_nil))) (ra_nil)) G.at) (blk_of rfl) (fun _ _ _ _ _ => rk_name 3 g.nd) (fun _ _ _ _ _ => rts_nil) (fun _ _ _ _ _ => rf_lst (ra_nil)))
  (rs_cons (rs_for g (ri_range1 (ra_cons (rf_callB (fun _ _ => bLen_ok) PySem.boot_len G.at (ra_cons (rf_var 0) (ra_nil))) (ra_nil)) G.at) (rg_name 4 g) (rs_cons (rs_for g (ri_values (rf_ix g.hu (rf_var 0) (rf_var 4))) (rg_tup g (rgs_cons (rg_name 3 g) (rgs_cons (rg_name 5 g) (rgs_nil)))) (rs_cons (rs_appIx 2 (rf_var 5) (rf_frz (rf_var 4)))
  (rs_nil)))
  (rs_nil)))
  (rs_cons (rs_set 6 g (rf_rep (rf_non) (rf_callB (fun _ _ => bLen_ok) PySem.boot_len G.at (ra_cons (rf_var 0) (ra_nil)))))
  (rs_cons (rs_set 7 g (rf_frz (rf_callTy (fun _ _ => bList_ok) PyProof.Rows.boot_list G.at (ra_cons (rf_var 1) (ra_nil)))))
  (rs_cons (rs_set 8 g (rf_frz (rf_int)))
  (rs_cons (rs_while g (rt_truO 7) (rs_cons (rs_set 9 g (rf_lst (ra_nil)))
  (rs_cons (rs_for g (ri_val (rf_var 7)) (rg_name 10 g) (rs_cons (rs_if (rt_cmp g.hu (rf_ixO 6 (rf_var 10)) (rf_non)) (rs_cons (rs_put 6 (rf_frz (rf_var 8)) (rf_var 10))
  (rs_cons (rs_extIx 9 2 (rf_var 10))
  (rs_nil))) (rs_nil))
  (rs_nil)))
  (rs_cons (rs_set 7 g (rf_frz (rf_var 9)))
  (rs_cons (rs_aug 8 g (rf_int))
  (rs_nil))))))
  (rs_cons (rs_ret (rf_mov 6))
  (rs_nil)))))))
theorem fw_steps_to {f : Addr} {fd : FuncData} (F : Fun K "steps_to" "steps_to" nt_steps_to f fd) (hm : mg "steps_to" = some (.ref f)) (hb : Binds K fd ["ways", "goals"] []) (G : Bl mg) : Fn P w K mg base 1 "steps_to" (prOf (sp_steps_to)) := fn_w F ns_steps_to hm hb (by decide) (ln_steps_to) (fun cdv A outer s H E hr => rw_steps_to G cdv A outer s H E hr (gd_of ns_steps_to hr)) (wp_steps_to)
abbrev nt_reciprocal : Stmt := topS 30
theorem ns_reciprocal : FnScope ["pay"] ["pay"] (defScope nt_reciprocal) := ⟨rfl, rfl, rfl, by decide +kernel, rfl, by decide +kernel, by decide +kernel⟩
theorem rw_reciprocal {f : Addr} (G : Bl mg) (k_WHOLE : ∃ t, mg "WHOLE" = some (.int 2520 t)) (cdv : Value) (A : Around) (outer : List Env) (s : Shared) (H : Hp) (E : XK) (hr : Room 0 (cxD P w K mg base ["pay"] "reciprocal" nt_reciprocal f cdv A outer s H E).A) (g : Gd (cxD P w K mg base ["pay"] "reciprocal" nt_reciprocal f cdv A outer s H E)) : RfS (cxD P w K mg base ["pay"] "reciprocal" nt_reciprocal f cdv A outer s H E) (defBody nt_reciprocal) (cd_reciprocal) :=
 rs_cons (rs_ret (rf_bin (rf_globI (k_WHOLE.choose_spec)) (rf_callB (fun _ _ => bMax2_ok g.calm) PyProof.Rows.boot_max G.at (ra_cons (rf_var 0) (ra_cons (rf_int) (ra_nil))))))
  (rs_nil)
theorem fw_reciprocal {f : Addr} {fd : FuncData} (F : Fun K "reciprocal" "reciprocal" nt_reciprocal f fd) (hm : mg "reciprocal" = some (.ref f)) (hb : Binds K fd ["pay"] []) (G : Bl mg) (k_WHOLE : ∃ t, mg "WHOLE" = some (.int 2520 t)) : Fn P w K mg base 1 "reciprocal" (prOf (sp_reciprocal)) := fn_w F ns_reciprocal hm hb (by decide) (ln_reciprocal) (fun cdv A outer s H E hr => rw_reciprocal G k_WHOLE cdv A outer s H E hr (gd_of ns_reciprocal hr)) (wp_reciprocal)
abbrev nt_inside : Stmt := topS 31
theorem ns_inside : FnScope ["moves", "lot", "pay", "to"] ["moves", "lot"] (defScope nt_inside) := ⟨rfl, rfl, rfl, by decide +kernel, rfl, by decide +kernel, by decide +kernel⟩
theorem rw_inside {f : Addr} (G : Bl mg) (F_reciprocal : Fn P w K mg base 1 "reciprocal" (prOf (sp_reciprocal))) (cdv : Value) (A : Around) (outer : List Env) (s : Shared) (H : Hp) (E : XK) (hr : Room 1 (cxD P w K mg base ["moves", "lot", "pay", "to"] "inside" nt_inside f cdv A outer s H E).A) (g : Gd (cxD P w K mg base ["moves", "lot", "pay", "to"] "inside" nt_inside f cdv A outer s H E)) : RfS (cxD P w K mg base ["moves", "lot", "pay", "to"] "inside" nt_inside f cdv A outer s H E) (defBody nt_inside) (cd_inside) :=
 rs_cons (rs_ret (rf_callB (fun _ _ => bSum_all g.calm) PyProof.Rows.boot_sum G.at (ra_cons (rf_lc [("pay", 2), ("to", 3)] g.calm g.nd (ri_values (rf_var 0)) (blk_of rfl) (fun _ _ _ _ _ => rk_tup g.calm (rks_cons (rk_name 2 g.nd) (rks_cons (rk_name 3 g.nd) (rks_nil)))) (fun _ _ _ _ _ => rts_one (rt_cmp g.hu (rf_var 3) (rf_var 1))) (fun _ _ _ _ _ => rf_callS F_reciprocal (hr.mono (by decide)) (ra_cons (rf_var 2) (ra_nil)))) (ra_nil))))
  (rs_nil)
theorem fw_inside {f : Addr} {fd : FuncData} (F : Fun K "inside" "inside" nt_inside f fd) (hm : mg "inside" = some (.ref f)) (hb : Binds K fd ["moves", "lot"] []) (G : Bl mg) (F_reciprocal : Fn P w K mg base 1 "reciprocal" (prOf (sp_reciprocal))) : Fn P w K mg base 2 "inside" (prOf (sp_inside)) := fn_w F ns_inside hm hb (by decide) (ln_inside) (fun cdv A outer s H E hr => rw_inside G F_reciprocal cdv A outer s H E hr (gd_of ns_inside hr)) (wp_inside)
abbrev nt_short_places : Stmt := topS 33
theorem ns_short_places : FnScope ["ways", "lot", "place"] ["ways", "lot"] (defScope nt_short_places) := ⟨rfl, rfl, rfl, by decide +kernel, rfl, by decide +kernel, by decide +kernel⟩
theorem rw_short_places {f : Addr} (G : Bl mg) (k_WHOLE : ∃ t, mg "WHOLE" = some (.int 2520 t)) (F_inside : Fn P w K mg base 2 "inside" (prOf (sp_inside))) (cdv : Value) (A : Around) (outer : List Env) (s : Shared) (H : Hp) (E : XK) (hr : Room 2 (cxD P w K mg base ["ways", "lot", "place"] "short_places" nt_short_places f cdv A outer s H E).A) (g : Gd (cxD P w K mg base ["ways", "lot", "place"] "short_places" nt_short_places f cdv A outer s H E)) : RfS (cxD P w K mg base ["ways", "lot", "place"] "short_places" nt_short_places f cdv A outer s H E) (defBody nt_short_places) (cd_short_places) :=
 rs_cons (rs_ret (rf_lc [("place", 2)] g.calm g.nd (ri_val (rf_var 1)) (blk_of rfl) (fun _ _ _ _ _ => rk_name 2 g.nd) (fun _ _ _ _ _ => rts_one (rt_cmp g.hu (rf_callS F_inside (hr.mono (by decide)) (ra_cons (rf_ix g.hu (rf_var 0) (rf_var 2)) (ra_cons (rf_var 1) (ra_nil)))) (rf_globI (k_WHOLE.choose_spec)))) (fun _ _ _ _ _ => rf_var 2)))
  (rs_nil)
theorem fw_short_places {f : Addr} {fd : FuncData} (F : Fun K "short_places" "short_places" nt_short_places f fd) (hm : mg "short_places" = some (.ref f)) (hb : Binds K fd ["ways", "lot"] []) (G : Bl mg) (k_WHOLE : ∃ t, mg "WHOLE" = some (.int 2520 t)) (F_inside : Fn P w K mg base 2 "inside" (prOf (sp_inside))) : Fn P w K mg base 3 "short_places" (prOf (sp_short_places)) := fn_w F ns_short_places hm hb (by decide) (ln_short_places) (fun cdv A outer s H E hr => rw_short_places G k_WHOLE F_inside cdv A outer s H E hr (gd_of ns_short_places hr)) (wp_short_places)
abbrev nt_ranks : Stmt := topS 32
theorem ns_ranks : FnScope ["track", "ways", "found", "left", "place", "turn", "struck"] ["track"] (defScope nt_ranks) := ⟨rfl, rfl, rfl, by decide +kernel, rfl, by decide +kernel, by decide +kernel⟩
theorem rw_ranks {f : Addr} {C : Addr} (G : Bl mg) (T0 : Tc K C) (F_short_places : Fn P w K mg base 3 "short_places" (prOf (sp_short_places))) (F_ways_of : Fn P w K mg base 1 "ways_of" (R_ways_of C)) (cdv : Value) (A : Around) (outer : List Env) (s : Shared) (H : Hp) (E : XK) (hr : Room 3 (cxD P w K mg base ["track", "ways", "found", "left", "place", "turn", "struck"] "ranks" nt_ranks f cdv A outer s H E).A) (g : Gd (cxD P w K mg base ["track", "ways", "found", "left", "place", "turn", "struck"] "ranks" nt_ranks f cdv A outer s H E)) : RfS (cxD P w K mg base ["track", "ways", "found", "left", "place", "turn", "struck"] "ranks" nt_ranks f cdv A outer s H E) (defBody nt_ranks) (cd_ranks C) :=
 rs_cons (rs_set 1 g (rf_frz (rf_call F_ways_of (hr.mono (by decide)) (ra_cons (rf_var 0) (ra_nil)))))
  (rs_cons (rs_set 2 g (rf_rep (rf_non) (rf_fld T0.cls T0.np (rf_var 0))))
  (rs_cons (rs_setDc 3 [("place", 4)] g.calm g.nd (ri_range1 (ra_cons (rf_fld T0.cls T0.np (rf_var 0)) (ra_nil)) G.at) (blk_of rfl) (fun _ _ _ _ _ => rk_name 4 g.nd) (fun _ _ _ _ _ => rts_nil) (fun _ _ _ _ _ => rf_var 4) (fun _ _ _ _ _ => rf_bl))
  (rs_cons (rs_set 5 g (rf_frz (rf_int)))
  (rs_cons (rs_set 6 g (rf_frz (rf_callL 3 F_short_places (hr.mono (by decide)) (ral_cons (rf_var 1) (ral_lend (ral_nil))))))
  (rs_cons (rs_while g (rt_truO 6) (rs_cons (rs_for g (ri_val (rf_var 6)) (rg_name 4 g) (rs_cons (rs_put 2 (rf_frz (rf_var 5)) (rf_var 4))
  (rs_cons (rs_delD 3 g.hu (rf_var 4))
  (rs_nil))))
  (rs_cons (rs_aug 5 g (rf_int))
  (rs_cons (rs_set 6 g (rf_frz (rf_callL 3 F_short_places (hr.mono (by decide)) (ral_cons (rf_var 1) (ral_lend (ral_nil))))))
  (rs_nil)))))
  (rs_cons (rs_ret (rf_tuple G.at (rf_var 2)))
  (rs_nil)))))))
theorem fw_ranks {f : Addr} {fd : FuncData} (F : Fun K "ranks" "ranks" nt_ranks f fd) (hm : mg "ranks" = some (.ref f)) (hb : Binds K fd ["track"] []) {C : Addr} (G : Bl mg) (T0 : Tc K C) (F_short_places : Fn P w K mg base 3 "short_places" (prOf (sp_short_places))) (F_ways_of : Fn P w K mg base 1 "ways_of" (R_ways_of C)) : Fn P w K mg base 4 "ranks" (prOf (sp_ranks C)) := fn_w F ns_ranks hm hb (by decide) (ln_ranks C) (fun cdv A outer s H E hr => rw_ranks G T0 F_short_places F_ways_of cdv A outer s H E hr (gd_of ns_ranks hr)) (wp_ranks C)
abbrev nt_greatest_full : Stmt := topS 34
theorem ns_greatest_full : FnScope ["track", "found", "place"] ["track"] (defScope nt_greatest_full) := ⟨rfl, rfl, rfl, by decide +kernel, rfl, by decide +kernel, by decide +kernel⟩
theorem rw_greatest_full {f : Addr} {C : Addr} (G : Bl mg) (T0 : Tc K C) (F_ranks : Fn P w K mg base 4 "ranks" (prOf (sp_ranks C))) (cdv : Value) (A : Around) (outer : List Env) (s : Shared) (H : Hp) (E : XK) (hr : Room 4 (cxD P w K mg base ["track", "found", "place"] "greatest_full" nt_greatest_full f cdv A outer s H E).A) (g : Gd (cxD P w K mg base ["track", "found", "place"] "greatest_full" nt_greatest_full f cdv A outer s H E)) : RfS (cxD P w K mg base ["track", "found", "place"] "greatest_full" nt_greatest_full f cdv A outer s H E) (defBody nt_greatest_full) (cd_greatest_full C) :=
 rs_cons (rs_set 1 g (rf_frz (rf_callS F_ranks (hr.mono (by decide)) (ra_cons (rf_var 0) (ra_nil)))))
  (rs_cons (rs_ret (rf_tuple G.at (rf_lc [("place", 2)] g.calm g.nd (ri_range1 (ra_cons (rf_fld T0.cls T0.np (rf_var 0)) (ra_nil)) G.at) (blk_of rfl) (fun _ _ _ _ _ => rk_name 2 g.nd) (fun _ _ _ _ _ => rts_one (rt_cmp g.hu (rf_ix g.hu (rf_var 1) (rf_var 2)) (rf_non))) (fun _ _ _ _ _ => rf_var 2))))
  (rs_nil))
theorem fw_greatest_full {f : Addr} {fd : FuncData} (F : Fun K "greatest_full" "greatest_full" nt_greatest_full f fd) (hm : mg "greatest_full" = some (.ref f)) (hb : Binds K fd ["track"] []) {C : Addr} (G : Bl mg) (T0 : Tc K C) (F_ranks : Fn P w K mg base 4 "ranks" (prOf (sp_ranks C))) : Fn P w K mg base 5 "greatest_full" (prOf (sp_greatest_full C)) := fn_w F ns_greatest_full hm hb (by decide) (ln_greatest_full C) (fun cdv A outer s H E hr => rw_greatest_full G T0 F_ranks cdv A outer s H E hr (gd_of ns_greatest_full hr)) (wp_greatest_full C)
abbrev nt_hopeful : Stmt := topS 35
theorem ns_hopeful : FnScope ["track", "steps", "place"] ["track"] (defScope nt_hopeful) := ⟨rfl, rfl, rfl, by decide +kernel, rfl, by decide +kernel, by decide +kernel⟩
theorem rw_hopeful {f : Addr} {C : Addr} (G : Bl mg) (T0 : Tc K C) (F_greatest_full : Fn P w K mg base 5 "greatest_full" (prOf (sp_greatest_full C))) (F_steps_to : Fn P w K mg base 1 "steps_to" (prOf (sp_steps_to))) (F_ways_of : Fn P w K mg base 1 "ways_of" (R_ways_of C)) (cdv : Value) (A : Around) (outer : List Env) (s : Shared) (H : Hp) (E : XK) (hr : Room 5 (cxD P w K mg base ["track", "steps", "place"] "hopeful" nt_hopeful f cdv A outer s H E).A) (g : Gd (cxD P w K mg base ["track", "steps", "place"] "hopeful" nt_hopeful f cdv A outer s H E)) : RfS (cxD P w K mg base ["track", "steps", "place"] "hopeful" nt_hopeful f cdv A outer s H E) (defBody nt_hopeful) (cd_hopeful C) :=
 rs_cons (rs_set 1 g (rf_frz (rf_callS F_steps_to (hr.mono (by decide)) (ra_cons (rf_call F_ways_of (hr.mono (by decide)) (ra_cons (rf_var 0) (ra_nil))) (ra_cons (rf_callS F_greatest_full (hr.mono (by decide)) (ra_cons (rf_var 0) (ra_nil))) (ra_nil))))))
  (rs_cons (rs_ret (rf_tuple G.at (rf_lc [("place", 2)] g.calm g.nd (ri_range1 (ra_cons (rf_fld T0.cls T0.np (rf_var 0)) (ra_nil)) G.at) (blk_of rfl) (fun _ _ _ _ _ => rk_name 2 g.nd) (fun _ _ _ _ _ => rts_one (rt_cmp g.hu (rf_ix g.hu (rf_var 1) (rf_var 2)) (rf_non))) (fun _ _ _ _ _ => rf_var 2))))
  (rs_nil))
theorem fw_hopeful {f : Addr} {fd : FuncData} (F : Fun K "hopeful" "hopeful" nt_hopeful f fd) (hm : mg "hopeful" = some (.ref f)) (hb : Binds K fd ["track"] []) {C : Addr} (G : Bl mg) (T0 : Tc K C) (F_greatest_full : Fn P w K mg base 5 "greatest_full" (prOf (sp_greatest_full C))) (F_steps_to : Fn P w K mg base 1 "steps_to" (prOf (sp_steps_to))) (F_ways_of : Fn P w K mg base 1 "ways_of" (R_ways_of C)) : Fn P w K mg base 6 "hopeful" (prOf (sp_hopeful C)) := fn_w F ns_hopeful hm hb (by decide) (ln_hopeful C) (fun cdv A outer s H E hr => rw_hopeful G T0 F_greatest_full F_steps_to F_ways_of cdv A outer s H E hr (gd_of ns_hopeful hr)) (wp_hopeful C)
abbrev nt_check_hopeful : Stmt := topS 38
theorem ns_check_hopeful : FnScope ["track", "place"] ["track", "place"] (defScope nt_check_hopeful) := ⟨rfl, rfl, rfl, by decide +kernel, rfl, by decide +kernel, by decide +kernel⟩
theorem rw_chkhopeR {f : Addr} {C : Addr} {C_NoPlace : Addr} {C_NotHopeful : Addr} (G : Bl mg) (X_NotHopeful : Ex0 P w K mg base "NotHopeful" C_NotHopeful) (F_check_place : Fn P w K mg base 4 "check_place" (prOf (sp_chkplaceR C C_NoPlace))) (F_hopeful : Fn P w K mg base 6 "hopeful" (prOf (sp_hopeful C))) (cdv : Value) (A : Around) (outer : List Env) (s : Shared) (H : Hp) (E : XK) (hr : Room 6 (cxD P w K mg base ["track", "place"] "check_hopeful" nt_check_hopeful f cdv A outer s H E).A) (g : Gd (cxD P w K mg base ["track", "place"] "check_hopeful" nt_check_hopeful f cdv A outer s H E)) : RfS (cxD P w K mg base ["track", "place"] "check_hopeful" nt_check_hopeful f cdv A outer s H E) (defBody nt_check_hopeful) (cd_chkhopeR C C_NoPlace C_NotHopeful) :=
 rs_cons (rs_expr (rf_callS F_check_place (hr.mono (by decide)) (ra_cons (rf_var 0) (ra_cons (rf_var 1) (ra_nil)))))
  (rs_cons (rs_if (rt_cmp g.hu (rf_var 1) (rf_callS F_hopeful (hr.mono (by decide)) (ra_cons (rf_var 0) (ra_nil)))) (rs_cons (rs_raise0 g.calm X_NotHopeful (hr.mono (by decide)))
  (rs_nil)) (rs_nil))
  (rs_nil))
theorem fw_chkhopeR {f : Addr} {fd : FuncData} (F : Fun K "check_hopeful" "check_hopeful" nt_check_hopeful f fd) (hm : mg "check_hopeful" = some (.ref f)) (hb : Binds K fd ["track", "place"] []) {C : Addr} {C_NoPlace : Addr} {C_NotHopeful : Addr} (G : Bl mg) (X_NotHopeful : Ex0 P w K mg base "NotHopeful" C_NotHopeful) (F_check_place : Fn P w K mg base 4 "check_place" (prOf (sp_chkplaceR C C_NoPlace))) (F_hopeful : Fn P w K mg base 6 "hopeful" (prOf (sp_hopeful C))) : Fn P w K mg base 7 "check_hopeful" (prOf (sp_chkhopeR C C_NoPlace C_NotHopeful)) := fn_w F ns_check_hopeful hm hb (by decide) (ln_chkhopeR C C_NoPlace C_NotHopeful) (fun cdv A outer s H E hr => rw_chkhopeR G X_NotHopeful F_check_place F_hopeful cdv A outer s H E hr (gd_of ns_check_hopeful hr)) (wp_chkhopeR C C_NoPlace C_NotHopeful)
abbrev nt_is_coins : Stmt := topS 9
theorem ns_is_coins : FnScope ["thing"] ["thing"] (defScope nt_is_coins) := ⟨rfl, rfl, rfl, by decide +kernel, rfl, by decide +kernel, by decide +kernel⟩
theorem rw_coins {f : Addr} {C : Addr} (G : Bl mg) (F_is_integer : Fn P w K mg base 1 "is_integer" (prOf (sp_isint C))) (cdv : Value) (A : Around) (outer : List Env) (s : Shared) (H : Hp) (E : XK) (hr : Room 1 (cxD P w K mg base ["thing"] "is_coins" nt_is_coins f cdv A outer s H E).A) (g : Gd (cxD P w K mg base ["thing"] "is_coins" nt_is_coins f cdv A outer s H E)) : RfS (cxD P w K mg base ["thing"] "is_coins" nt_is_coins f cdv A outer s H E) (defBody nt_is_coins) (cd_coins C) :=
 rs_cons (rs_ret (rf_and (rf_callS F_is_integer (hr.mono (by decide)) (ra_cons (rf_var 0) (ra_nil))) (rf_one (rf_cmp g.hu (rf_var 0) (rf_int)))))
  (rs_nil)
theorem fw_coins {f : Addr} {fd : FuncData} (F : Fun K "is_coins" "is_coins" nt_is_coins f fd) (hm : mg "is_coins" = some (.ref f)) (hb : Binds K fd ["thing"] []) {C : Addr} (G : Bl mg) (F_is_integer : Fn P w K mg base 1 "is_integer" (prOf (sp_isint C))) : Fn P w K mg base 2 "is_coins" (prOf (sp_coins C)) := fn_w F ns_is_coins hm hb (by decide) (ln_coins C) (fun cdv A outer s H E hr => rw_coins G F_is_integer cdv A outer s H E hr (gd_of ns_is_coins hr)) (wp_coins C)
abbrev nt_check_coins : Stmt := topS 15
theorem ns_check_coins : FnScope ["coins"] ["coins"] (defScope nt_check_coins) := ⟨rfl, rfl, rfl, by decide +kernel, rfl, by decide +kernel, by decide +kernel⟩
theorem rw_chkcoinsR {f : Addr} {C : Addr} {C_NoCoins : Addr} (G : Bl mg) (X_NoCoins : Ex0 P w K mg base "NoCoins" C_NoCoins) (F_is_coins : Fn P w K mg base 2 "is_coins" (prOf (sp_coins C))) (cdv : Value) (A : Around) (outer : List Env) (s : Shared) (H : Hp) (E : XK) (hr : Room 2 (cxD P w K mg base ["coins"] "check_coins" nt_check_coins f cdv A outer s H E).A) (g : Gd (cxD P w K mg base ["coins"] "check_coins" nt_check_coins f cdv A outer s H E)) : RfS (cxD P w K mg base ["coins"] "check_coins" nt_check_coins f cdv A outer s H E) (defBody nt_check_coins) (cd_chkcoinsR C C_NoCoins) :=
 rs_cons (rs_if (rt_not (rt_val (rf_callS F_is_coins (hr.mono (by decide)) (ra_cons (rf_var 0) (ra_nil))))) (rs_cons (rs_raise0 g.calm X_NoCoins (hr.mono (by decide)))
  (rs_nil)) (rs_nil))
  (rs_nil)
theorem fw_chkcoinsR {f : Addr} {fd : FuncData} (F : Fun K "check_coins" "check_coins" nt_check_coins f fd) (hm : mg "check_coins" = some (.ref f)) (hb : Binds K fd ["coins"] []) {C : Addr} {C_NoCoins : Addr} (G : Bl mg) (X_NoCoins : Ex0 P w K mg base "NoCoins" C_NoCoins) (F_is_coins : Fn P w K mg base 2 "is_coins" (prOf (sp_coins C))) : Fn P w K mg base 3 "check_coins" (prOf (sp_chkcoinsR C C_NoCoins)) := fn_w F ns_check_coins hm hb (by decide) (ln_chkcoinsR C C_NoCoins) (fun cdv A outer s H E hr => rw_chkcoinsR G X_NoCoins F_is_coins cdv A outer s H E hr (gd_of ns_check_coins hr)) (wp_chkcoinsR C C_NoCoins)
abbrev nt_fewest_laid : Stmt := topS 40
theorem ns_fewest_laid : FnScope ["pays", "lost", "share", "pay", "laid", "enough"] ["pays", "lost"] (defScope nt_fewest_laid) := ⟨rfl, rfl, rfl, by decide +kernel, rfl, by decide +kernel, by decide +kernel⟩
theorem rw_fewest {f : Addr} (G : Bl mg) (k_WHOLE : ∃ t, mg "WHOLE" = some (.int 2520 t)) (F_reciprocal : Fn P w K mg base 1 "reciprocal" (prOf (sp_reciprocal))) (cdv : Value) (A : Around) (outer : List Env) (s : Shared) (H : Hp) (E : XK) (hr : Room 1 (cxD P w K mg base ["pays", "lost", "share", "pay", "laid", "enough"] "fewest_laid" nt_fewest_laid f cdv A outer s H E).A) (g : Gd (cxD P w K mg base ["pays", "lost", "share", "pay", "laid", "enough"] "fewest_laid" nt_fewest_laid f cdv A outer s H E)) : RfS (cxD P w K mg base ["pays", "lost", "share", "pay", "laid", "enough"] "fewest_laid" nt_fewest_laid f cdv A outer s H E) (defBody nt_fewest_laid) (cd_fewest) :=
 rs_cons (rs_set 2 g (rf_frz (rf_callB (fun _ _ => bSum_all g.calm) PyProof.Rows.boot_sum G.at (ra_cons (rf_lc [("pay", 3)] g.calm g.nd (ri_val (rf_var 0)) (blk_of rfl) (fun _ _ _ _ _ => rk_name 3 g.nd) (fun _ _ _ _ _ => rts_nil) (fun _ _ _ _ _ => rf_callS F_reciprocal (hr.mono (by decide)) (ra_cons (rf_var 3) (ra_nil)))) (ra_nil)))))
  (rs_cons (rs_set 4 g (rf_frz (rf_neg (rf_bin (rf_bin (rf_neg (rf_var 2)) (rf_bin (rf_var 1) (rf_int))) (rf_bin (rf_globI (k_WHOLE.choose_spec)) (rf_var 2))))))
  (rs_cons (rs_set 5 g (rf_frz (rf_callB (fun _ _ => bSum_all g.calm) PyProof.Rows.boot_sum G.at (ra_cons (rf_lc [("pay", 3)] g.calm g.nd (ri_val (rf_var 0)) (blk_of rfl) (fun _ _ _ _ _ => rk_name 3 g.nd) (fun _ _ _ _ _ => rts_nil) (fun _ _ _ _ _ => rf_neg (rf_bin (rf_neg (rf_bin (rf_bin (rf_var 1) (rf_var 4)) (rf_int))) (rf_var 3)))) (ra_nil)))))
  (rs_cons (rs_while g (rt_cmp g.hu (rf_var 5) (rf_var 4)) (rs_cons (rs_set 4 g (rf_frz (rf_var 5)))
  (rs_cons (rs_set 5 g (rf_frz (rf_callB (fun _ _ => bSum_all g.calm) PyProof.Rows.boot_sum G.at (ra_cons (rf_lc [("pay", 3)] g.calm g.nd (ri_val (rf_var 0)) (blk_of rfl) (fun _ _ _ _ _ => rk_name 3 g.nd) (fun _ _ _ _ _ => rts_nil) (fun _ _ _ _ _ => rf_neg (rf_bin (rf_neg (rf_bin (rf_bin (rf_var 1) (rf_var 4)) (rf_int))) (rf_var 3)))) (ra_nil)))))
  (rs_nil))))
  (rs_cons (rs_ret (rf_var 4))
  (rs_nil)))))
theorem fw_fewest {f : Addr} {fd : FuncData} (F : Fun K "fewest_laid" "fewest_laid" nt_fewest_laid f fd) (hm : mg "fewest_laid" = some (.ref f)) (hb : Binds K fd ["pays", "lost"] []) (G : Bl mg) (k_WHOLE : ∃ t, mg "WHOLE" = some (.int 2520 t)) (F_reciprocal : Fn P w K mg base 1 "reciprocal" (prOf (sp_reciprocal))) : Fn P w K mg base 2 "fewest_laid" (prOf (sp_fewest)) := fn_w F ns_fewest_laid hm hb (by decide) (ln_fewest) (fun cdv A outer s H E hr => rw_fewest G k_WHOLE F_reciprocal cdv A outer s H E hr (gd_of ns_fewest_laid hr)) (wp_fewest)
abbrev nt_plain_at : Stmt := topS 39
theorem ns_plain_at : FnScope ["moves", "ranking", "place", "lost", "won", "_", "to", "laid", "at", "pay", "stake"] ["moves", "ranking", "place", "lost"] (defScope nt_plain_at) := ⟨rfl, rfl, rfl, by decide +kernel, rfl, by decide +kernel, by decide +kernel⟩
theorem rw_plain_at {f : Addr} (G : Bl mg) (F_fewest_laid : Fn P w K mg base 2 "fewest_laid" (prOf (sp_fewest))) (cdv : Value) (A : Around) (outer : List Env) (s : Shared) (H : Hp) (E : XK) (hr : Room 2 (cxD P w K mg base ["moves", "ranking", "place", "lost", "won", "_", "to", "laid", "at", "pay", "stake"] "plain_at" nt_plain_at f cdv A outer s H E).A) (g : Gd (cxD P w K mg base ["moves", "ranking", "place", "lost", "won", "_", "to", "laid", "at", "pay", "stake"] "plain_at" nt_plain_at f cdv A outer s H E)) : RfS (cxD P w K mg base ["moves", "ranking", "place", "lost", "won", "_", "to", "laid", "at", "pay", "stake"] "plain_at" nt_plain_at f cdv A outer s H E) (defBody nt_plain_at) (cd_plain_at) :=
 rs_cons (rs_set 4 g (rf_frz (rf_lc [("_", 5), ("to", 6)] g.calm g.nd (ri_values (rf_var 0)) (blk_of rfl) (fun _ _ _ _ _ => rk_tup g.calm (rks_cons (rk_name 5 g.nd) (rks_cons (rk_name 6 g.nd) (rks_nil)))) (fun _ _ _ _ _ => rts_nil) (fun _ _ _ _ _ => rf_cmp g.hu (rf_ix g.hu (rf_var 1) (rf_var 6)) (rf_ix g.hu (rf_var 1) (rf_var 2))))))
  (rs_cons (rs_set 7 g (rf_frz (rf_callS F_fewest_laid (hr.mono (by decide)) (ra_cons (rf_lc [("at", 8), ("pay", 9), ("_", 5)] g.calm g.nd (ri_enumV (rf_var 0) G.at) (blk_of rfl) (fun _ _ _ _ _ => rk_tup g.calm (rks_cons (rk_name 8 g.nd) (rks_cons (rk_tup g.calm (rks_cons (rk_name 9 g.nd) (rks_cons (rk_name 5 g.nd) (rks_nil)))) (rks_nil)))) (fun _ _ _ _ _ => rts_one (rt_val (rf_ix g.hu (rf_var 4) (rf_var 8)))) (fun _ _ _ _ _ => rf_var 9)) (ra_cons (rf_var 3) (ra_nil))))))
  (rs_cons (rs_setLcF 10 [("at", 8), ("pay", 9), ("_", 5)] g.calm g.nd (ri_enumV (rf_var 0) G.at) (blk_of rfl) (fun _ _ _ _ _ => rk_tup g.calm (rks_cons (rk_name 8 g.nd) (rks_cons (rk_tup g.calm (rks_cons (rk_name 9 g.nd) (rks_cons (rk_name 5 g.nd) (rks_nil)))) (rks_nil)))) (fun _ _ _ _ _ => rts_nil) (fun _ _ _ _ _ => rf_if (rt_val (rf_ix g.hu (rf_var 4) (rf_var 8))) (rf_neg (rf_bin (rf_neg (rf_bin (rf_bin (rf_var 3) (rf_var 7)) (rf_int))) (rf_var 9))) (rf_int)))
  (rs_cons (rs_ret (rf_tuple G.at (rf_var 10)))
  (rs_nil))))
theorem fw_plain_at {f : Addr} {fd : FuncData} (F : Fun K "plain_at" "plain_at" nt_plain_at f fd) (hm : mg "plain_at" = some (.ref f)) (hb : Binds K fd ["moves", "ranking", "place", "lost"] []) (G : Bl mg) (F_fewest_laid : Fn P w K mg base 2 "fewest_laid" (prOf (sp_fewest))) : Fn P w K mg base 3 "plain_at" (prOf (sp_plain_at)) := fn_w F ns_plain_at hm hb (by decide) (ln_plain_at) (fun cdv A outer s H E hr => rw_plain_at G F_fewest_laid cdv A outer s H E hr (gd_of ns_plain_at hr)) (wp_plain_at)
abbrev nt_plain_stake : Stmt := topS 37
theorem ns_plain_stake : FnScope ["track", "place", "lost"] ["track", "place", "lost"] (defScope nt_plain_stake) := ⟨rfl, rfl, rfl, by decide +kernel, rfl, by decide +kernel, by decide +kernel⟩
theorem rw_plstakeR {f : Addr} {C : Addr} {C_NoCoins : Addr} {C_NoPlace : Addr} {C_NotHopeful : Addr} (G : Bl mg) (F_check_coins : Fn P w K mg base 3 "check_coins" (prOf (sp_chkcoinsR C C_NoCoins))) (F_check_hopeful : Fn P w K mg base 7 "check_hopeful" (prOf (sp_chkhopeR C C_NoPlace C_NotHopeful))) (F_plain_at : Fn P w K mg base 3 "plain_at" (prOf (sp_plain_at))) (F_ranks : Fn P w K mg base 4 "ranks" (prOf (sp_ranks C))) (F_ways_of : Fn P w K mg base 1 "ways_of" (R_ways_of C)) (cdv : Value) (A : Around) (outer : List Env) (s : Shared) (H : Hp) (E : XK) (hr : Room 7 (cxD P w K mg base ["track", "place", "lost"] "plain_stake" nt_plain_stake f cdv A outer s H E).A) (g : Gd (cxD P w K mg base ["track", "place", "lost"] "plain_stake" nt_plain_stake f cdv A outer s H E)) : RfS (cxD P w K mg base ["track", "place", "lost"] "plain_stake" nt_plain_stake f cdv A outer s H E) (defBody nt_plain_stake) (cd_plstakeR C C_NoPlace C_NoCoins C_NotHopeful) :=
 rs_cons (rs_expr (rf_callS F_check_hopeful (hr.mono (by decide)) (ra_cons (rf_var 0) (ra_cons (rf_var 1) (ra_nil)))))
  (rs_cons (rs_expr (rf_callS F_check_coins (hr.mono (by decide)) (ra_cons (rf_var 2) (ra_nil))))
  (rs_cons (rs_ret (rf_callS F_plain_at (hr.mono (by decide)) (ra_cons (rf_ix g.hu (rf_call F_ways_of (hr.mono (by decide)) (ra_cons (rf_var 0) (ra_nil))) (rf_var 1)) (ra_cons (rf_callS F_ranks (hr.mono (by decide)) (ra_cons (rf_var 0) (ra_nil))) (ra_cons (rf_var 1) (ra_cons (rf_var 2) (ra_nil)))))))
  (rs_nil)))
theorem fw_plstakeR {f : Addr} {fd : FuncData} (F : Fun K "plain_stake" "plain_stake" nt_plain_stake f fd) (hm : mg "plain_stake" = some (.ref f)) (hb : Binds K fd ["track", "place", "lost"] []) {C : Addr} {C_NoCoins : Addr} {C_NoPlace : Addr} {C_NotHopeful : Addr} (G : Bl mg) (F_check_coins : Fn P w K mg base 3 "check_coins" (prOf (sp_chkcoinsR C C_NoCoins))) (F_check_hopeful : Fn P w K mg base 7 "check_hopeful" (prOf (sp_chkhopeR C C_NoPlace C_NotHopeful))) (F_plain_at : Fn P w K mg base 3 "plain_at" (prOf (sp_plain_at))) (F_ranks : Fn P w K mg base 4 "ranks" (prOf (sp_ranks C))) (F_ways_of : Fn P w K mg base 1 "ways_of" (R_ways_of C)) : Fn P w K mg base 8 "plain_stake" (prOf (sp_plstakeR C C_NoPlace C_NoCoins C_NotHopeful)) := fn_w F ns_plain_stake hm hb (by decide) (ln_plstakeR C C_NoPlace C_NoCoins C_NotHopeful) (fun cdv A outer s H E hr => rw_plstakeR G F_check_coins F_check_hopeful F_plain_at F_ranks F_ways_of cdv A outer s H E hr (gd_of ns_plain_stake hr)) (wp_plstakeR C C_NoPlace C_NoCoins C_NotHopeful)
abbrev nt_plain_coins : Stmt := topS 41
theorem ns_plain_coins : FnScope ["track", "place", "ways", "ranking", "near", "here", "lost", "most", "_", "whole", "to"] ["track", "place"] (defScope nt_plain_coins) := ⟨rfl, rfl, rfl, by decide +kernel, rfl, by decide +kernel, by decide +kernel⟩
theorem rw_plcoinsR {f : Addr} {C : Addr} {C_NoPlace : Addr} {C_NotHopeful : Addr} (G : Bl mg) (T0 : Tc K C) (F_check_hopeful : Fn P w K mg base 7 "check_hopeful" (prOf (sp_chkhopeR C C_NoPlace C_NotHopeful))) (F_plain_at : Fn P w K mg base 3 "plain_at" (prOf (sp_plain_at))) (F_ranks : Fn P w K mg base 4 "ranks" (prOf (sp_ranks C))) (F_reached : Fn P w K mg base 5 "reached" (R_reached C)) (F_ways_of : Fn P w K mg base 1 "ways_of" (R_ways_of C)) (cdv : Value) (A : Around) (outer : List Env) (s : Shared) (H : Hp) (E : XK) (hr : Room 7 (cxD P w K mg base ["track", "place", "ways", "ranking", "near", "here", "lost", "most", "_", "whole", "to"] "plain_coins" nt_plain_coins f cdv A outer s H E).A) (g : Gd (cxD P w K mg base ["track", "place", "ways", "ranking", "near", "here", "lost", "most", "_", "whole", "to"] "plain_coins" nt_plain_coins f cdv A outer s H E)) : RfS (cxD P w K mg base ["track", "place", "ways", "ranking", "near", "here", "lost", "most", "_", "whole", "to"] "plain_coins" nt_plain_coins f cdv A outer s H E) (defBody nt_plain_coins) (cd_plcoinsR C C_NoPlace C_NotHopeful) :=
 rs_cons (rs_expr (rf_callS F_check_hopeful (hr.mono (by decide)) (ra_cons (rf_var 0) (ra_cons (rf_var 1) (ra_nil)))))
  (rs_cons (rs_set 2 g (rf_frz (rf_call F_ways_of (hr.mono (by decide)) (ra_cons (rf_var 0) (ra_nil)))))
  (rs_cons (rs_set 3 g (rf_frz (rf_callS F_ranks (hr.mono (by decide)) (ra_cons (rf_var 0) (ra_nil)))))
  (rs_cons (rs_set 4 g (rf_frz (rf_callB (fun _ _ => bSort_ok) PyProof.Rows.boot_sorted G.at (ra_cons (rf_lc [("here", 5)] g.calm g.nd (ri_val (rf_call F_reached (hr.mono (by decide)) (ra_cons (rf_var 0) (ra_cons (rf_var 1) (ra_nil))))) (blk_of rfl) (fun _ _ _ _ _ => rk_name 5 g.nd) (fun _ _ _ _ _ => rts_nil) (fun _ _ _ _ _ => rf_tup (ra_cons (rf_neg (rf_ix g.hu (rf_var 3) (rf_var 5))) (ra_cons (rf_var 5) (ra_nil))))) (ra_nil)))))
  (rs_cons (rs_set 6 g (rf_rep (rf_int) (rf_fld T0.cls T0.np (rf_var 0))))
  (rs_cons (rs_set 7 g (rf_frz (rf_int)))
  (rs_cons (rs_for g (ri_val (rf_var 4)) (rg_tup g (rgs_cons (rg_name 8 g) (rgs_cons (rg_name 5 g) (rgs_nil)))) (rs_cons (rs_set 9 g (rf_frz (rf_bin (rf_ixO 6 (rf_var 5)) (rf_callB (fun _ _ => bSum_all g.calm) PyProof.Rows.boot_sum G.at (ra_cons (rf_callS F_plain_at (hr.mono (by decide)) (ra_cons (rf_ix g.hu (rf_var 2) (rf_var 5)) (ra_cons (rf_var 3) (ra_cons (rf_var 5) (ra_cons (rf_ixO 6 (rf_var 5)) (ra_nil)))))) (ra_nil))))))
  (rs_cons (rs_set 7 g (rf_frz (rf_callB (fun _ _ => bMax2_ok g.calm) PyProof.Rows.boot_max G.at (ra_cons (rf_var 7) (ra_cons (rf_var 9) (ra_nil))))))
  (rs_cons (rs_for g (ri_values (rf_ix g.hu (rf_var 2) (rf_var 5))) (rg_tup g (rgs_cons (rg_name 8 g) (rgs_cons (rg_name 10 g) (rgs_nil)))) (rs_cons (rs_if (rt_cmp g.hu (rf_ix g.hu (rf_var 3) (rf_var 10)) (rf_ix g.hu (rf_var 3) (rf_var 5))) (rs_cons (rs_put 6 (rf_frz (rf_callB (fun _ _ => bMax2_ok g.calm) PyProof.Rows.boot_max G.at (ra_cons (rf_ixO 6 (rf_var 10)) (ra_cons (rf_var 9) (ra_nil))))) (rf_var 10))
  (rs_nil)) (rs_nil))
  (rs_nil)))
  (rs_nil)))))
  (rs_cons (rs_ret (rf_var 7))
  (rs_nil))))))))
theorem fw_plcoinsR {f : Addr} {fd : FuncData} (F : Fun K "plain_coins" "plain_coins" nt_plain_coins f fd) (hm : mg "plain_coins" = some (.ref f)) (hb : Binds K fd ["track", "place"] []) {C : Addr} {C_NoPlace : Addr} {C_NotHopeful : Addr} (G : Bl mg) (T0 : Tc K C) (F_check_hopeful : Fn P w K mg base 7 "check_hopeful" (prOf (sp_chkhopeR C C_NoPlace C_NotHopeful))) (F_plain_at : Fn P w K mg base 3 "plain_at" (prOf (sp_plain_at))) (F_ranks : Fn P w K mg base 4 "ranks" (prOf (sp_ranks C))) (F_reached : Fn P w K mg base 5 "reached" (R_reached C)) (F_ways_of : Fn P w K mg base 1 "ways_of" (R_ways_of C)) : Fn P w K mg base 8 "plain_coins" (prOf (sp_plcoinsR C C_NoPlace C_NotHopeful)) := fn_w F ns_plain_coins hm hb (by decide) (ln_plcoinsR C C_NoPlace C_NotHopeful) (fun cdv A outer s H E hr => rw_plcoinsR G T0 F_check_hopeful F_plain_at F_ranks F_reached F_ways_of cdv A outer s H E hr (gd_of ns_plain_coins hr)) (wp_plcoinsR C C_NoPlace C_NotHopeful)
abbrev nt__law_word : Stmt := topS 52
theorem ns__law_word : FnScope ["kind", "track", "place", "lost", "word"] ["kind", "track", "place", "lost"] (defScope nt__law_word) := ⟨rfl, rfl, rfl, by decide +kernel, rfl, by decide +kernel, by decide +kernel⟩
theorem rw_lword51 {f : Addr} {C : Addr} {C_NoCoins : Addr} {C_NoPlace : Addr} {C_NotHopeful : Addr} (G : Bl mg) (I_NoCoins : ExI K mg "NoCoins" C_NoCoins) (I_NoPlace : ExI K mg "NoPlace" C_NoPlace) (I_NotHopeful : ExI K mg "NotHopeful" C_NotHopeful) (exm_NoCoins_NoCoins : PySem.W.exmOne K (.ref C_NoCoins) (.ref C_NoCoins) = some true) (exm_NoCoins_NoPlace : PySem.W.exmOne K (.ref C_NoCoins) (.ref C_NoPlace) = some false) (exm_NoCoins_NotHopeful : PySem.W.exmOne K (.ref C_NoCoins) (.ref C_NotHopeful) = some false) (exm_NoPlace_NoCoins : PySem.W.exmOne K (.ref C_NoPlace) (.ref C_NoCoins) = some false) (exm_NoPlace_NoPlace : PySem.W.exmOne K (.ref C_NoPlace) (.ref C_NoPlace) = some true) (exm_NoPlace_NotHopeful : PySem.W.exmOne K (.ref C_NoPlace) (.ref C_NotHopeful) = some false) (exm_NotHopeful_NoCoins : PySem.W.exmOne K (.ref C_NotHopeful) (.ref C_NoCoins) = some false) (exm_NotHopeful_NoPlace : PySem.W.exmOne K (.ref C_NotHopeful) (.ref C_NoPlace) = some false) (exm_NotHopeful_NotHopeful : PySem.W.exmOne K (.ref C_NotHopeful) (.ref C_NotHopeful) = some true) (F_plain_coins : Fn P w K mg base 8 "plain_coins" (prOf (sp_plcoinsR C C_NoPlace C_NotHopeful))) (F_plain_stake : Fn P w K mg base 8 "plain_stake" (prOf (sp_plstakeR C C_NoPlace C_NoCoins C_NotHopeful))) (cdv : Value) (A : Around) (outer : List Env) (s : Shared) (H : Hp) (E : XK) (hr : Room 8 (cxD P w K mg base ["kind", "track", "place", "lost", "word"] "_law_word" nt__law_word f cdv A outer s H E).A) (g : Gd (cxD P w K mg base ["kind", "track", "place", "lost", "word"] "_law_word" nt__law_word f cdv A outer s H E)) : RfS (cxD P w K mg base ["kind", "track", "place", "lost", "word"] "_law_word" nt__law_word f cdv A outer s H E) (defBody nt__law_word) (cd_lword51 C C_NoPlace C_NoCoins C_NotHopeful) :=
 rs_cons (rs_set 4 g (rf_frz (rf_str)))
  (rs_cons (rs_tryM g (Clauses.cons (exmL_cons exm_NoPlace_NoPlace (exmL_cons exm_NoCoins_NoPlace (exmL_cons exm_NotHopeful_NoPlace exmL_nil))) (names_of I_NoPlace.m) (fun a oe pn hf => rs_cons (rs_setN 4 g.nd (rf_frz (rf_str)))
  (rs_nil)) (Clauses.cons (exmL_cons exm_NoPlace_NotHopeful (exmL_cons exm_NoCoins_NotHopeful (exmL_cons exm_NotHopeful_NotHopeful exmL_nil))) (names_of I_NotHopeful.m) (fun a oe pn hf => rs_cons (rs_setN 4 g.nd (rf_frz (rf_str)))
  (rs_nil)) (Clauses.cons (exmL_cons exm_NoPlace_NoCoins (exmL_cons exm_NoCoins_NoCoins (exmL_cons exm_NotHopeful_NoCoins exmL_nil))) (names_of I_NoCoins.m) (fun a oe pn hf => rs_cons (rs_setN 4 g.nd (rf_frz (rf_str)))
  (rs_nil)) Clauses.nil))) (fun pn xe g => rs_cons (rs_if (rt_cmp g.hu (rf_var 0) (rf_int)) (rs_cons (rs_expr (rf_callS F_plain_stake (hr.mono (by decide)) (ra_cons (rf_var 1) (ra_cons (rf_var 2) (ra_cons (rf_var 3) (ra_nil))))))
  (rs_nil)) (rs_cons (rs_expr (rf_callS F_plain_coins (hr.mono (by decide)) (ra_cons (rf_var 1) (ra_cons (rf_var 2) (ra_nil)))))
  (rs_nil)))
  (rs_nil)))
  (rs_cons (rs_ret (rf_var 4))
  (rs_nil)))
theorem fw_lword51 {f : Addr} {fd : FuncData} (F : Fun K "_law_word" "_law_word" nt__law_word f fd) (hm : mg "_law_word" = some (.ref f)) (hb : Binds K fd ["kind", "track", "place", "lost"] []) {C : Addr} {C_NoCoins : Addr} {C_NoPlace : Addr} {C_NotHopeful : Addr} (G : Bl mg) (I_NoCoins : ExI K mg "NoCoins" C_NoCoins) (I_NoPlace : ExI K mg "NoPlace" C_NoPlace) (I_NotHopeful : ExI K mg "NotHopeful" C_NotHopeful) (exm_NoCoins_NoCoins : PySem.W.exmOne K (.ref C_NoCoins) (.ref C_NoCoins) = some true) (exm_NoCoins_NoPlace : PySem.W.exmOne K (.ref C_NoCoins) (.ref C_NoPlace) = some false) (exm_NoCoins_NotHopeful : PySem.W.exmOne K (.ref C_NoCoins) (.ref C_NotHopeful) = some false) (exm_NoPlace_NoCoins : PySem.W.exmOne K (.ref C_NoPlace) (.ref C_NoCoins) = some false) (exm_NoPlace_NoPlace : PySem.W.exmOne K (.ref C_NoPlace) (.ref C_NoPlace) = some true) (exm_NoPlace_NotHopeful : PySem.W.exmOne K (.ref C_NoPlace) (.ref C_NotHopeful) = some false) (exm_NotHopeful_NoCoins : PySem.W.exmOne K (.ref C_NotHopeful) (.ref C_NoCoins) = some false) (exm_NotHopeful_NoPlace : PySem.W.exmOne K (.ref C_NotHopeful) (.ref C_NoPlace) = some false) (exm_NotHopeful_NotHopeful : PySem.W.exmOne K (.ref C_NotHopeful) (.ref C_NotHopeful) = some true) (F_plain_coins : Fn P w K mg base 8 "plain_coins" (prOf (sp_plcoinsR C C_NoPlace C_NotHopeful))) (F_plain_stake : Fn P w K mg base 8 "plain_stake" (prOf (sp_plstakeR C C_NoPlace C_NoCoins C_NotHopeful))) : Fn P w K mg base 9 "_law_word" (prOf (sp_lword51 C C_NoPlace C_NoCoins C_NotHopeful)) := fn_w F ns__law_word hm hb (by decide) (ln_lword51 C C_NoPlace C_NoCoins C_NotHopeful) (fun cdv A outer s H E hr => rw_lword51 G I_NoCoins I_NoPlace I_NotHopeful exm_NoCoins_NoCoins exm_NoCoins_NoPlace exm_NoCoins_NotHopeful exm_NoPlace_NoCoins exm_NoPlace_NoPlace exm_NoPlace_NotHopeful exm_NotHopeful_NoCoins exm_NotHopeful_NoPlace exm_NotHopeful_NotHopeful F_plain_coins F_plain_stake cdv A outer s H E hr (gd_of ns__law_word hr)) (wp_lword51 C C_NoPlace C_NoCoins C_NotHopeful)
abbrev nt_law : Stmt := topS 53
theorem ns_law : FnScope ["script", "pot", "turn", "parts", "track", "hopeful_v", "odd", "none", "place", "right", "words"] ["script"] (defScope nt_law) := ⟨rfl, rfl, rfl, by decide +kernel, rfl, by decide +kernel, by decide +kernel⟩
theorem rw_law51 {f : Addr} {C : Addr} {C_NoCoins : Addr} {C_NoPlace : Addr} {C_NotHopeful : Addr} (G : Bl mg) (F_Track : Cn P w K mg base 6 "Track" C (R_track C)) (F__law_any : Fn P w K mg base 2 "_law_any" (prM (sp_lany51))) (F__law_deep : Fn P w K mg base 3 "_law_deep" (prM (sp_ldeep51))) (F__law_draw : Fn P w K mg base 1 "_law_draw" (prM (sp_pdraw))) (F__law_hopeful : Fn P w K mg base 3 "_law_hopeful" (prOf (sp_lhopeful47))) (F__law_parts : Fn P w K mg base 2 "_law_parts" (prM (sp_lparts))) (F__law_pot : Fn P w K mg base 1 "_law_pot" (prOf (sp_pot))) (F__law_word : Fn P w K mg base 9 "_law_word" (prOf (sp_lword51 C C_NoPlace C_NoCoins C_NotHopeful))) (cdv : Value) (A : Around) (outer : List Env) (s : Shared) (H : Hp) (E : XK) (hr : Room 9 (cxD P w K mg base ["script", "pot", "turn", "parts", "track", "hopeful_v", "odd", "none", "place", "right", "words"] "law" nt_law f cdv A outer s H E).A) (g : Gd (cxD P w K mg base ["script", "pot", "turn", "parts", "track", "hopeful_v", "odd", "none", "place", "right", "words"] "law" nt_law f cdv A outer s H E)) : RfS (cxD P w K mg base ["script", "pot", "turn", "parts", "track", "hopeful_v", "odd", "none", "place", "right", "words"] "law" nt_law f cdv A outer s H E) (defBody nt_law) (cd_law51 C C_NoPlace C_NoCoins C_NotHopeful) :=
 rs_cons (rs_set 1 g (rf_callS F__law_pot (hr.mono (by decide)) (ra_cons (rf_var 0) (ra_nil))))
  (rs_cons (rs_for g (ri_range1 (ra_cons (rf_int) (ra_nil)) G.at) (rg_name 2 g) (rs_cons (rs_set 3 g (rf_frz (rf_callMS 1 F__law_parts (hr.mono (by decide)) (ra_cons (rf_int) (ra_cons (rf_int) (ra_cons (rf_int) (ra_nil)))))))
  (rs_cons (rs_set 4 g (rf_frz (rf_new F_Track (hr.mono (by decide)) (ra_cons (rf_ix g.hu (rf_var 3) (rf_int)) (ra_cons (rf_ix g.hu (rf_var 3) (rf_int)) (ra_nil))))))
  (rs_cons (rs_set 5 g (rf_frz (rf_callS F__law_hopeful (hr.mono (by decide)) (ra_cons (rf_var 3) (ra_nil)))))
  (rs_cons (rs_set 6 g (rf_frz (rf_callMS 1 F__law_any (hr.mono (by decide)) (ra_cons (rf_tup (ra_cons (rf_non) (ra_cons (rf_bl) (ra_cons (rf_bl) (ra_cons (rf_neg (rf_int)) (ra_cons (rf_str) (ra_cons (rf_tup (ra_cons (rf_int) (ra_nil))) (ra_cons (rf_lst (ra_cons (rf_int) (ra_nil))) (ra_cons (rf_dnew) (ra_cons (rf_bin (rf_int) (rf_bin (rf_int) (rf_int))) (ra_cons (rf_callMS 1 F__law_deep (hr.mono (by decide)) (ra_nil)) (ra_nil)))))))))))) (ra_nil)))))
  (rs_cons (rs_for g (ri_val (rf_tup (ra_cons (rf_var 6) (ra_cons (rf_ix g.hu (rf_var 3) (rf_int)) (ra_cons (rf_neg (rf_int)) (ra_cons (rf_bl) (ra_nil))))))) (rg_name 7 g) (rs_cons (rs_if (rt_w (rw_or (rt_cmp g.hu (rf_callS F__law_word (hr.mono (by decide)) (ra_cons (rf_int) (ra_cons (rf_var 4) (ra_cons (rf_var 7) (ra_cons (rf_var 6) (ra_nil)))))) (rf_str)) (rw_or1 (rt_cmp g.hu (rf_callS F__law_word (hr.mono (by decide)) (ra_cons (rf_int) (ra_cons (rf_var 4) (ra_cons (rf_var 7) (ra_cons (rf_int) (ra_nil)))))) (rf_str))))) (rs_cons (rs_ret (rf_bl))
  (rs_nil)) (rs_nil))
  (rs_nil)))
  (rs_cons (rs_for g (ri_range1 (ra_cons (rf_ix g.hu (rf_var 3) (rf_int)) (ra_nil)) G.at) (rg_name 8 g) (rs_cons (rs_set 9 g (rf_frz (rf_cmp g.hu (rf_var 8) (rf_var 5))))
  (rs_cons (rs_set 10 g (rf_frz (rf_lst (ra_cons (rf_callS F__law_word (hr.mono (by decide)) (ra_cons (rf_int) (ra_cons (rf_var 4) (ra_cons (rf_var 8) (ra_cons (rf_var 6) (ra_nil)))))) (ra_cons (rf_callS F__law_word (hr.mono (by decide)) (ra_cons (rf_int) (ra_cons (rf_var 4) (ra_cons (rf_var 8) (ra_cons (rf_callMS 1 F__law_draw (hr.mono (by decide)) (ra_cons (rf_int) (ra_nil))) (ra_nil)))))) (ra_cons (rf_callS F__law_word (hr.mono (by decide)) (ra_cons (rf_int) (ra_cons (rf_var 4) (ra_cons (rf_var 8) (ra_cons (rf_int) (ra_nil)))))) (ra_nil)))))))
  (rs_cons (rs_if (rt_neP g.hu (rf_var 10) (rf_if (rt_truO 9) (rf_lst (ra_cons (rf_str) (ra_cons (rf_str) (ra_cons (rf_str) (ra_nil))))) (rf_rep (rf_str) (rf_int)))) (rs_cons (rs_ret (rf_bl))
  (rs_nil)) (rs_nil))
  (rs_nil)))))
  (rs_nil))))))))
  (rs_cons (rs_ret (rf_bl))
  (rs_nil)))
theorem fw_law51 {f : Addr} {fd : FuncData} (F : Fun K "law" "law" nt_law f fd) {C : Addr} {C_NoCoins : Addr} {C_NoPlace : Addr} {C_NotHopeful : Addr} (G : Bl mg) (F_Track : Cn P w K mg base 6 "Track" C (R_track C)) (F__law_any : Fn P w K mg base 2 "_law_any" (prM (sp_lany51))) (F__law_deep : Fn P w K mg base 3 "_law_deep" (prM (sp_ldeep51))) (F__law_draw : Fn P w K mg base 1 "_law_draw" (prM (sp_pdraw))) (F__law_hopeful : Fn P w K mg base 3 "_law_hopeful" (prOf (sp_lhopeful47))) (F__law_parts : Fn P w K mg base 2 "_law_parts" (prM (sp_lparts))) (F__law_pot : Fn P w K mg base 1 "_law_pot" (prOf (sp_pot))) (F__law_word : Fn P w K mg base 9 "_law_word" (prOf (sp_lword51 C C_NoPlace C_NoCoins C_NotHopeful))) : FnOk P w K mg base (L2.CX P w) 10 f fd ["script"] (spF K (prOf sp_law)) := fnok_w F ns_law (by decide) (ln_law51 C C_NoPlace C_NoCoins C_NotHopeful) (fun cdv A outer s H E hr => rw_law51 G F_Track F__law_any F__law_deep F__law_draw F__law_hopeful F__law_parts F__law_pot F__law_word cdv A outer s H E hr (gd_of ns_law hr)) (wp_law51 C C_NoPlace C_NoCoins C_NotHopeful)
end
end Vl
end
section
set_option maxRecDepth 100000
namespace Vl
open PySem L2
section
variable {P : Program} {w : World} {K : PySem.W.Frag} {mg : Str → Option Value} {base : Heap}
theorem law_all {fi C : Addr} {fdi : FuncData} {C_NoCoins : Addr} {C_NoPlace : Addr} {C_NotHopeful : Addr} {f : Addr} {fd : FuncData} (G : Bl mg) (M : Mc mg) (T0 : Tc K C) (hC : mg "Track" = some (.ref C)) (Mm : Mk K C fi) (Fi : Fun K "__init__" "Track.__init__" st_track_init fi fdi) (hbi : Binds K fdi ["self", "places", "arrows"] []) (T1 : ClsI K C) (k_WHOLE : ∃ t, mg "WHOLE" = some (.int 2520 t)) (I_NoCoins : ExI K mg "NoCoins" C_NoCoins) (I_NoPlace : ExI K mg "NoPlace" C_NoPlace) (I_NotHopeful : ExI K mg "NotHopeful" C_NotHopeful) (X_NoCoins : Ex0 P w K mg base "NoCoins" C_NoCoins) (X_NoPlace : Ex0 P w K mg base "NoPlace" C_NoPlace) (X_NotHopeful : Ex0 P w K mg base "NotHopeful" C_NotHopeful) (exm_NoCoins_NoCoins : PySem.W.exmOne K (.ref C_NoCoins) (.ref C_NoCoins) = some true) (exm_NoCoins_NoPlace : PySem.W.exmOne K (.ref C_NoCoins) (.ref C_NoPlace) = some false) (exm_NoCoins_NotHopeful : PySem.W.exmOne K (.ref C_NoCoins) (.ref C_NotHopeful) = some false) (exm_NoPlace_NoCoins : PySem.W.exmOne K (.ref C_NoPlace) (.ref C_NoCoins) = some false) (exm_NoPlace_NoPlace : PySem.W.exmOne K (.ref C_NoPlace) (.ref C_NoPlace) = some true) (exm_NoPlace_NotHopeful : PySem.W.exmOne K (.ref C_NoPlace) (.ref C_NotHopeful) = some false) (exm_NotHopeful_NoCoins : PySem.W.exmOne K (.ref C_NotHopeful) (.ref C_NoCoins) = some false) (exm_NotHopeful_NoPlace : PySem.W.exmOne K (.ref C_NotHopeful) (.ref C_NoPlace) = some false) (exm_NotHopeful_NotHopeful : PySem.W.exmOne K (.ref C_NotHopeful) (.ref C_NotHopeful) = some true)
    (d_is_integer : Df K mg "is_integer" nt_is_integer ["thing"])
    (d_is_within : Df K mg "is_within" nt_is_within ["thing", "low", "high"])
    (d_is_coins : Df K mg "is_coins" nt_is_coins ["thing"])
    (d_is_letter : Df K mg "is_letter" st_is_letter ["thing"])
    (d_is_rising : Df K mg "is_rising" st_is_rising ["items"])
    (d_is_place : Df K mg "is_place" nt_is_place ["track", "thing"])
    (d_check_place : Df K mg "check_place" nt_check_place ["track", "place"])
    (d_check_coins : Df K mg "check_coins" nt_check_coins ["coins"])
    (d_steps_to : Df K mg "steps_to" nt_steps_to ["ways", "goals"])
    (d_wrong_part : Df K mg "wrong_part" st_wrong_part ["places", "arrows"])
    (d_are_arrows : Df K mg "are_arrows" st_are_arrows ["places", "thing"])
    (d_is_arrow : Df K mg "is_arrow" st_is_arrow ["places", "thing"])
    (d_ways_of : Df K mg "ways_of" st_ways_of ["track"])
    (d_reached : Df K mg "reached" st_reached ["track", "place"])
    (d_reciprocal : Df K mg "reciprocal" nt_reciprocal ["pay"])
    (d_inside : Df K mg "inside" nt_inside ["moves", "lot"])
    (d_ranks : Df K mg "ranks" nt_ranks ["track"])
    (d_short_places : Df K mg "short_places" nt_short_places ["ways", "lot"])
    (d_greatest_full : Df K mg "greatest_full" nt_greatest_full ["track"])
    (d_hopeful : Df K mg "hopeful" nt_hopeful ["track"])
    (d_plain_stake : Df K mg "plain_stake" nt_plain_stake ["track", "place", "lost"])
    (d_check_hopeful : Df K mg "check_hopeful" nt_check_hopeful ["track", "place"])
    (d_plain_at : Df K mg "plain_at" nt_plain_at ["moves", "ranking", "place", "lost"])
    (d_fewest_laid : Df K mg "fewest_laid" nt_fewest_laid ["pays", "lost"])
    (d_plain_coins : Df K mg "plain_coins" nt_plain_coins ["track", "place"])
    (d__law_pot : Df K mg "_law_pot" nt__law_pot ["script"])
    (d__law_draw : Df K mg "_law_draw" nt__law_draw ["pot", "many"])
    (d__law_any : Df K mg "_law_any" nt__law_any ["pot", "items"])
    (d__law_parts : Df K mg "_law_parts" nt__law_parts ["pot", "most_places", "most_letters", "most_pay"])
    (d__law_steps : Df K mg "_law_steps" nt__law_steps ["parts", "place"])
    (d__law_ranks : Df K mg "_law_ranks" nt__law_ranks ["parts"])
    (d__law_reached : Df K mg "_law_reached" nt__law_reached ["parts", "place"])
    (d__law_hopeful : Df K mg "_law_hopeful" nt__law_hopeful ["parts"])
    (d__law_deep : Df K mg "_law_deep" nt__law_deep ["pot"])
    (d__law_word : Df K mg "_law_word" nt__law_word ["kind", "track", "place", "lost"]) (FL : Fun K "law" "law" nt_law f fd) : FnOk P w K mg base (L2.CX P w) 10 f fd ["script"] (spF K (prOf sp_law)) := by
  obtain ⟨_, _, F_is_integer, m_is_integer, b_is_integer⟩ := d_is_integer
  obtain ⟨_, _, F_is_within, m_is_within, b_is_within⟩ := d_is_within
  obtain ⟨_, _, F_is_coins, m_is_coins, b_is_coins⟩ := d_is_coins
  obtain ⟨_, _, F_is_letter, m_is_letter, b_is_letter⟩ := d_is_letter
  obtain ⟨_, _, F_is_rising, m_is_rising, b_is_rising⟩ := d_is_rising
  obtain ⟨_, _, F_is_place, m_is_place, b_is_place⟩ := d_is_place
  obtain ⟨_, _, F_check_place, m_check_place, b_check_place⟩ := d_check_place
  obtain ⟨_, _, F_check_coins, m_check_coins, b_check_coins⟩ := d_check_coins
  obtain ⟨_, _, F_steps_to, m_steps_to, b_steps_to⟩ := d_steps_to
  obtain ⟨_, _, F_wrong_part, m_wrong_part, b_wrong_part⟩ := d_wrong_part
  obtain ⟨_, _, F_are_arrows, m_are_arrows, b_are_arrows⟩ := d_are_arrows
  obtain ⟨_, _, F_is_arrow, m_is_arrow, b_is_arrow⟩ := d_is_arrow
  obtain ⟨_, _, F_ways_of, m_ways_of, b_ways_of⟩ := d_ways_of
  obtain ⟨_, _, F_reached, m_reached, b_reached⟩ := d_reached
  obtain ⟨_, _, F_reciprocal, m_reciprocal, b_reciprocal⟩ := d_reciprocal
  obtain ⟨_, _, F_inside, m_inside, b_inside⟩ := d_inside
  obtain ⟨_, _, F_ranks, m_ranks, b_ranks⟩ := d_ranks
  obtain ⟨_, _, F_short_places, m_short_places, b_short_places⟩ := d_short_places
  obtain ⟨_, _, F_greatest_full, m_greatest_full, b_greatest_full⟩ := d_greatest_full
  obtain ⟨_, _, F_hopeful, m_hopeful, b_hopeful⟩ := d_hopeful
  obtain ⟨_, _, F_plain_stake, m_plain_stake, b_plain_stake⟩ := d_plain_stake
  obtain ⟨_, _, F_check_hopeful, m_check_hopeful, b_check_hopeful⟩ := d_check_hopeful
  obtain ⟨_, _, F_plain_at, m_plain_at, b_plain_at⟩ := d_plain_at
  obtain ⟨_, _, F_fewest_laid, m_fewest_laid, b_fewest_laid⟩ := d_fewest_laid
  obtain ⟨_, _, F_plain_coins, m_plain_coins, b_plain_coins⟩ := d_plain_coins
  obtain ⟨_, _, F__law_pot, m__law_pot, b__law_pot⟩ := d__law_pot
  obtain ⟨_, _, F__law_draw, m__law_draw, b__law_draw⟩ := d__law_draw
  obtain ⟨_, _, F__law_any, m__law_any, b__law_any⟩ := d__law_any
  obtain ⟨_, _, F__law_parts, m__law_parts, b__law_parts⟩ := d__law_parts
  obtain ⟨_, _, F__law_steps, m__law_steps, b__law_steps⟩ := d__law_steps
  obtain ⟨_, _, F__law_ranks, m__law_ranks, b__law_ranks⟩ := d__law_ranks
  obtain ⟨_, _, F__law_reached, m__law_reached, b__law_reached⟩ := d__law_reached
  obtain ⟨_, _, F__law_hopeful, m__law_hopeful, b__law_hopeful⟩ := d__law_hopeful
  obtain ⟨_, _, F__law_deep, m__law_deep, b__law_deep⟩ := d__law_deep
  obtain ⟨_, _, F__law_word, m__law_word, b__law_word⟩ := d__law_word
  have N_pot : Fn P w K mg base 1 "_law_pot" (prOf (sp_pot)) := fw_pot F__law_pot m__law_pot b__law_pot G
  have N_pdraw : Fn P w K mg base 1 "_law_draw" (prM (sp_pdraw)) := fw_pdraw F__law_draw m__law_draw b__law_draw G
  have N_lparts : Fn P w K mg base 2 "_law_parts" (prM (sp_lparts)) := fw_lparts F__law_parts m__law_parts b__law_parts G N_pdraw
  have O_is_integer : Fn P w K mg base 1 "is_integer" (R_is_integer K) := fn_is_integer F_is_integer m_is_integer b_is_integer G
  have O_is_within : Fn P w K mg base 2 "is_within" (R_is_within) := fn_is_within F_is_within m_is_within b_is_within O_is_integer
  have O_is_letter : Fn P w K mg base 1 "is_letter" (R_is_letter) := fn_is_letter F_is_letter m_is_letter b_is_letter G
  have O_is_arrow : Fn P w K mg base 3 "is_arrow" (R_is_arrow) := fn_is_arrow F_is_arrow m_is_arrow b_is_arrow G M O_is_within O_is_letter
  have O_is_rising : Fn P w K mg base 1 "is_rising" (R_is_rising) := fn_is_rising F_is_rising m_is_rising b_is_rising G
  have O_are_arrows : Fn P w K mg base 4 "are_arrows" (R_are_arrows) := fn_are_arrows F_are_arrows m_are_arrows b_are_arrows G M O_is_arrow O_is_rising
  have O_wrong_part : Fn P w K mg base 5 "wrong_part" (R_wrong_part) := fn_wrong_part F_wrong_part m_wrong_part b_wrong_part G M O_is_within O_are_arrows
  have O_Track : Cn P w K mg base 6 "Track" C (R_track C) := cn_track Fi Mm hC hbi T0 O_wrong_part
  have N_psteps : Fn P w K mg base 1 "_law_steps" (prOf (sp_psteps)) := fw_psteps F__law_steps m__law_steps b__law_steps G
  have N_lranks47 : Fn P w K mg base 2 "_law_ranks" (prOf (sp_lranks47)) := fw_lranks47 F__law_ranks m__law_ranks b__law_ranks G N_psteps
  have N_lreached47 : Fn P w K mg base 2 "_law_reached" (prOf (sp_lreached47)) := fw_lreached47 F__law_reached m__law_reached b__law_reached G N_psteps
  have N_lhopeful47 : Fn P w K mg base 3 "_law_hopeful" (prOf (sp_lhopeful47)) := fw_lhopeful47 F__law_hopeful m__law_hopeful b__law_hopeful G N_lranks47 N_lreached47
  have N_lany51 : Fn P w K mg base 2 "_law_any" (prM (sp_lany51)) := fw_lany51 F__law_any m__law_any b__law_any G N_pdraw
  have N_ldeep51 : Fn P w K mg base 3 "_law_deep" (prM (sp_ldeep51)) := fw_ldeep51 F__law_deep m__law_deep b__law_deep G N_lany51 N_pdraw
  have N_isint : Fn P w K mg base 1 "is_integer" (prOf (sp_isint C)) := fw_isint F_is_integer m_is_integer b_is_integer G T1
  have N_within : Fn P w K mg base 2 "is_within" (prOf (sp_within C)) := fw_within F_is_within m_is_within b_is_within G N_isint
  have N_is_place : Fn P w K mg base 3 "is_place" (prOf (sp_is_place C)) := fw_is_place F_is_place m_is_place b_is_place G T0 N_within
  have N_chkplaceR : Fn P w K mg base 4 "check_place" (prOf (sp_chkplaceR C C_NoPlace)) := fw_chkplaceR F_check_place m_check_place b_check_place G X_NoPlace N_is_place
  have N_steps_to : Fn P w K mg base 1 "steps_to" (prOf (sp_steps_to)) := fw_steps_to F_steps_to m_steps_to b_steps_to G
  have O_ways_of : Fn P w K mg base 1 "ways_of" (R_ways_of C) := fn_ways_of F_ways_of m_ways_of b_ways_of G T0
  have N_reciprocal : Fn P w K mg base 1 "reciprocal" (prOf (sp_reciprocal)) := fw_reciprocal F_reciprocal m_reciprocal b_reciprocal G k_WHOLE
  have N_inside : Fn P w K mg base 2 "inside" (prOf (sp_inside)) := fw_inside F_inside m_inside b_inside G N_reciprocal
  have N_short_places : Fn P w K mg base 3 "short_places" (prOf (sp_short_places)) := fw_short_places F_short_places m_short_places b_short_places G k_WHOLE N_inside
  have N_ranks : Fn P w K mg base 4 "ranks" (prOf (sp_ranks C)) := fw_ranks F_ranks m_ranks b_ranks G T0 N_short_places O_ways_of
  have N_greatest_full : Fn P w K mg base 5 "greatest_full" (prOf (sp_greatest_full C)) := fw_greatest_full F_greatest_full m_greatest_full b_greatest_full G T0 N_ranks
  have N_hopeful : Fn P w K mg base 6 "hopeful" (prOf (sp_hopeful C)) := fw_hopeful F_hopeful m_hopeful b_hopeful G T0 N_greatest_full N_steps_to O_ways_of
  have N_chkhopeR : Fn P w K mg base 7 "check_hopeful" (prOf (sp_chkhopeR C C_NoPlace C_NotHopeful)) := fw_chkhopeR F_check_hopeful m_check_hopeful b_check_hopeful G X_NotHopeful N_chkplaceR N_hopeful
  have N_coins : Fn P w K mg base 2 "is_coins" (prOf (sp_coins C)) := fw_coins F_is_coins m_is_coins b_is_coins G N_isint
  have N_chkcoinsR : Fn P w K mg base 3 "check_coins" (prOf (sp_chkcoinsR C C_NoCoins)) := fw_chkcoinsR F_check_coins m_check_coins b_check_coins G X_NoCoins N_coins
  have N_fewest : Fn P w K mg base 2 "fewest_laid" (prOf (sp_fewest)) := fw_fewest F_fewest_laid m_fewest_laid b_fewest_laid G k_WHOLE N_reciprocal
  have N_plain_at : Fn P w K mg base 3 "plain_at" (prOf (sp_plain_at)) := fw_plain_at F_plain_at m_plain_at b_plain_at G N_fewest
  have N_plstakeR : Fn P w K mg base 8 "plain_stake" (prOf (sp_plstakeR C C_NoPlace C_NoCoins C_NotHopeful)) := fw_plstakeR F_plain_stake m_plain_stake b_plain_stake G N_chkcoinsR N_chkhopeR N_plain_at N_ranks O_ways_of
  have O_is_place : Fn P w K mg base 3 "is_place" (R_is_place C) := fn_is_place F_is_place m_is_place b_is_place T0 O_is_within
  have O_check_place : Fn P w K mg base 4 "check_place" (R_check_place C) := fn_check_place F_check_place m_check_place b_check_place O_is_place
  have O_reached : Fn P w K mg base 5 "reached" (R_reached C) := fn_reached F_reached m_reached b_reached G O_check_place O_ways_of
  have N_plcoinsR : Fn P w K mg base 8 "plain_coins" (prOf (sp_plcoinsR C C_NoPlace C_NotHopeful)) := fw_plcoinsR F_plain_coins m_plain_coins b_plain_coins G T0 N_chkhopeR N_plain_at N_ranks O_reached O_ways_of
  have N_lword51 : Fn P w K mg base 9 "_law_word" (prOf (sp_lword51 C C_NoPlace C_NoCoins C_NotHopeful)) := fw_lword51 F__law_word m__law_word b__law_word G I_NoCoins I_NoPlace I_NotHopeful exm_NoCoins_NoCoins exm_NoCoins_NoPlace exm_NoCoins_NotHopeful exm_NoPlace_NoCoins exm_NoPlace_NoPlace exm_NoPlace_NotHopeful exm_NotHopeful_NoCoins exm_NotHopeful_NoPlace exm_NotHopeful_NotHopeful N_plcoinsR N_plstakeR
  exact fw_law51 FL G O_Track N_lany51 N_ldeep51 N_pdraw N_lhopeful47 N_lparts N_pot N_lword51
end
theorem bd_is_integer : Bd "is_integer" "is_integer" nt_is_integer ["thing"] := fun _ _ _ _ _ _ us hl => match us, hl with | [_], _ => rfl
theorem bd_is_within : Bd "is_within" "is_within" nt_is_within ["thing", "low", "high"] := fun _ _ _ _ _ _ us hl => match us, hl with | [_, _, _], _ => rfl
theorem bd_is_coins : Bd "is_coins" "is_coins" nt_is_coins ["thing"] := fun _ _ _ _ _ _ us hl => match us, hl with | [_], _ => rfl
theorem bd_is_letter : Bd "is_letter" "is_letter" st_is_letter ["thing"] := fun _ _ _ _ _ _ us hl => match us, hl with | [_], _ => rfl
theorem bd_is_rising : Bd "is_rising" "is_rising" st_is_rising ["items"] := fun _ _ _ _ _ _ us hl => match us, hl with | [_], _ => rfl
theorem bd_is_place : Bd "is_place" "is_place" nt_is_place ["track", "thing"] := fun _ _ _ _ _ _ us hl => match us, hl with | [_, _], _ => rfl
theorem bd_check_place : Bd "check_place" "check_place" nt_check_place ["track", "place"] := fun _ _ _ _ _ _ us hl => match us, hl with | [_, _], _ => rfl
theorem bd_check_coins : Bd "check_coins" "check_coins" nt_check_coins ["coins"] := fun _ _ _ _ _ _ us hl => match us, hl with | [_], _ => rfl
theorem bd_steps_to : Bd "steps_to" "steps_to" nt_steps_to ["ways", "goals"] := fun _ _ _ _ _ _ us hl => match us, hl with | [_, _], _ => rfl
theorem bd_wrong_part : Bd "wrong_part" "wrong_part" st_wrong_part ["places", "arrows"] := fun _ _ _ _ _ _ us hl => match us, hl with | [_, _], _ => rfl
theorem bd_are_arrows : Bd "are_arrows" "are_arrows" st_are_arrows ["places", "thing"] := fun _ _ _ _ _ _ us hl => match us, hl with | [_, _], _ => rfl
theorem bd_is_arrow : Bd "is_arrow" "is_arrow" st_is_arrow ["places", "thing"] := fun _ _ _ _ _ _ us hl => match us, hl with | [_, _], _ => rfl
theorem bd_ways_of : Bd "ways_of" "ways_of" st_ways_of ["track"] := fun _ _ _ _ _ _ us hl => match us, hl with | [_], _ => rfl
theorem bd_reached : Bd "reached" "reached" st_reached ["track", "place"] := fun _ _ _ _ _ _ us hl => match us, hl with | [_, _], _ => rfl
theorem bd_reciprocal : Bd "reciprocal" "reciprocal" nt_reciprocal ["pay"] := fun _ _ _ _ _ _ us hl => match us, hl with | [_], _ => rfl
theorem bd_inside : Bd "inside" "inside" nt_inside ["moves", "lot"] := fun _ _ _ _ _ _ us hl => match us, hl with | [_, _], _ => rfl
theorem bd_ranks : Bd "ranks" "ranks" nt_ranks ["track"] := fun _ _ _ _ _ _ us hl => match us, hl with | [_], _ => rfl
theorem bd_short_places : Bd "short_places" "short_places" nt_short_places ["ways", "lot"] := fun _ _ _ _ _ _ us hl => match us, hl with | [_, _], _ => rfl
theorem bd_greatest_full : Bd "greatest_full" "greatest_full" nt_greatest_full ["track"] := fun _ _ _ _ _ _ us hl => match us, hl with | [_], _ => rfl
theorem bd_hopeful : Bd "hopeful" "hopeful" nt_hopeful ["track"] := fun _ _ _ _ _ _ us hl => match us, hl with | [_], _ => rfl
theorem bd_plain_stake : Bd "plain_stake" "plain_stake" nt_plain_stake ["track", "place", "lost"] := fun _ _ _ _ _ _ us hl => match us, hl with | [_, _, _], _ => rfl
theorem bd_check_hopeful : Bd "check_hopeful" "check_hopeful" nt_check_hopeful ["track", "place"] := fun _ _ _ _ _ _ us hl => match us, hl with | [_, _], _ => rfl
theorem bd_plain_at : Bd "plain_at" "plain_at" nt_plain_at ["moves", "ranking", "place", "lost"] := fun _ _ _ _ _ _ us hl => match us, hl with | [_, _, _, _], _ => rfl
theorem bd_fewest_laid : Bd "fewest_laid" "fewest_laid" nt_fewest_laid ["pays", "lost"] := fun _ _ _ _ _ _ us hl => match us, hl with | [_, _], _ => rfl
theorem bd_plain_coins : Bd "plain_coins" "plain_coins" nt_plain_coins ["track", "place"] := fun _ _ _ _ _ _ us hl => match us, hl with | [_, _], _ => rfl
theorem bd__law_pot : Bd "_law_pot" "_law_pot" nt__law_pot ["script"] := fun _ _ _ _ _ _ us hl => match us, hl with | [_], _ => rfl
theorem bd__law_draw : Bd "_law_draw" "_law_draw" nt__law_draw ["pot", "many"] := fun _ _ _ _ _ _ us hl => match us, hl with | [_, _], _ => rfl
theorem bd__law_any : Bd "_law_any" "_law_any" nt__law_any ["pot", "items"] := fun _ _ _ _ _ _ us hl => match us, hl with | [_, _], _ => rfl
theorem bd__law_parts : Bd "_law_parts" "_law_parts" nt__law_parts ["pot", "most_places", "most_letters", "most_pay"] := fun _ _ _ _ _ _ us hl => match us, hl with | [_, _, _, _], _ => rfl
theorem bd__law_steps : Bd "_law_steps" "_law_steps" nt__law_steps ["parts", "place"] := fun _ _ _ _ _ _ us hl => match us, hl with | [_, _], _ => rfl
theorem bd__law_ranks : Bd "_law_ranks" "_law_ranks" nt__law_ranks ["parts"] := fun _ _ _ _ _ _ us hl => match us, hl with | [_], _ => rfl
theorem bd__law_reached : Bd "_law_reached" "_law_reached" nt__law_reached ["parts", "place"] := fun _ _ _ _ _ _ us hl => match us, hl with | [_, _], _ => rfl
theorem bd__law_hopeful : Bd "_law_hopeful" "_law_hopeful" nt__law_hopeful ["parts"] := fun _ _ _ _ _ _ us hl => match us, hl with | [_], _ => rfl
theorem bd__law_deep : Bd "_law_deep" "_law_deep" nt__law_deep ["pot"] := fun _ _ _ _ _ _ us hl => match us, hl with | [_], _ => rfl
theorem bd__law_word : Bd "_law_word" "_law_word" nt__law_word ["kind", "track", "place", "lost"] := fun _ _ _ _ _ _ us hl => match us, hl with | [_, _, _, _], _ => rfl
theorem bd_init : Bd "__init__" "Track.__init__" st_track_init ["self", "places", "arrows"] := fun _ _ _ _ _ _ us hl => match us, hl with | [_, _, _], _ => rfl
abbrev xt_NoCoins_i : Stmt := inClass (topS 4) 0
theorem xs_NoCoins_i : FnScope ["self"] ["self"] (defScope xt_NoCoins_i) := ⟨rfl, rfl, rfl, by decide +kernel, rfl, by decide +kernel, by decide +kernel⟩
theorem xb_NoCoins : Bd "__init__" "NoCoins.__init__" xt_NoCoins_i ["self"] := fun _ _ _ _ _ _ us hl => match us, hl with | [_], _ => rfl
abbrev xt_NoPlace_i : Stmt := inClass (topS 3) 0
theorem xs_NoPlace_i : FnScope ["self"] ["self"] (defScope xt_NoPlace_i) := ⟨rfl, rfl, rfl, by decide +kernel, rfl, by decide +kernel, by decide +kernel⟩
theorem xb_NoPlace : Bd "__init__" "NoPlace.__init__" xt_NoPlace_i ["self"] := fun _ _ _ _ _ _ us hl => match us, hl with | [_], _ => rfl
abbrev xt_NotHopeful_i : Stmt := inClass (topS 5) 0
theorem xs_NotHopeful_i : FnScope ["self"] ["self"] (defScope xt_NotHopeful_i) := ⟨rfl, rfl, rfl, by decide +kernel, rfl, by decide +kernel, by decide +kernel⟩
theorem xb_NotHopeful : Bd "__init__" "NotHopeful.__init__" xt_NotHopeful_i ["self"] := fun _ _ _ _ _ _ us hl => match us, hl with | [_], _ => rfl
theorem all_mk {P : Program} {w : World} {K : PySem.W.Frag} {h : Heap} {mg : Str → Option Value} {fa fL : Addr} (X : K.In h) (G : h.Ns mainGlobals mg) (hfa : mg "law" = some (.ref fa))
    {ocL kVL dcL pmL cdL ctL : Value} {odL anL : Option Addr} {slL : Array (Option Value)} {tP tA tY} {t_WHOLE} {fi C : Addr} {oci kVi dci pmi cdi cti : Value} {odi ani : Option Addr} {sli : Array (Option Value)}
    (Bm : Bl mg) (aP : PySem.W.nsIn K mainGlobals "MOST_PLACES" = some (some (.int 12 tP))) (aA : PySem.W.nsIn K mainGlobals "MOST_ARROWS" = some (some (.int 60 tA))) (aY : PySem.W.nsIn K mainGlobals "MOST_PAY" = some (some (.int 9 tY)))
    (aC : PySem.W.nsIn K mainGlobals "Track" = some (some (.ref C)))
    (ai : PySem.W.findIn K (.ref C) "__init__" = some (some (.ref fi))) (ii : PySem.W.isFn K (.ref fi) = true) (li : K.lookup fi = some ⟨oci, odi, .func (PySem.W.fnOf "__init__" "Track.__init__" (defArgs st_track_init) (defBody st_track_init) (defScope st_track_init) .none kVi dci pmi ani cdi cti), sli⟩) (ci : PySem.W.codeIn K cdi "Track.__init__" = true) (ki : PySem.W.keepIn K (.ref fi) = true) (mk : PySem.W.makesIn K C = true) (kc : PySem.W.keepIn K (.ref C) = true)
    (pg : PySem.W.plainGet K C Str.empty = true) (hd : PySem.W.hasDictIn K C = true) (po : PySem.W.plainOver K C = true) (sa : PySem.W.findIn K (.ref C) "__setattr__" = some (some (.builtin "object.__setattr__")))
    (nP : PySem.W.findIn K (.ref C) "places" = some none) (nA : PySem.W.findIn K (.ref C) "arrows" = some none)
    (i1 : PySem.W.findIn K (.ref C) "__class__" = some (some (.builtin "object.__class__"))) (i2 : PySem.W.specialIn K (.builtin "object.__class__") "__get__" = some (some (.builtin "getset_descriptor.__get__"))) (i3 : PySem.W.takesIn K (.builtin "object.__class__") = some true) (i4 : PySem.W.mroIn K C (.type "object") = some true) (i5 : PySem.W.subIn K (.ref C) (.type "int") = some false) (i6 : PySem.W.subIn K (.ref C) (.type "bool") = some false) (i7 : PySem.W.subIn K (.ref C) (.type "str") = some false) (i8 : PySem.W.subIn K (.ref C) (.type "tuple") = some false) (i9 : PySem.W.subIn K (.ref C) (.type "list") = some false) (i10 : PySem.W.subIn K (.ref C) (.type "dict") = some false) (c_WHOLE : PySem.W.nsIn K mainGlobals "WHOLE" = some (some (.int 2520 t_WHOLE)))
    {C_NoCoins : Addr} (a_NoCoins : PySem.W.nsIn K mainGlobals "NoCoins" = some (some (.ref C_NoCoins)))
    {C_NoPlace : Addr} (a_NoPlace : PySem.W.nsIn K mainGlobals "NoPlace" = some (some (.ref C_NoPlace)))
    {C_NotHopeful : Addr} (a_NotHopeful : PySem.W.nsIn K mainGlobals "NotHopeful" = some (some (.ref C_NotHopeful)))
    (x_get : PySem.W.specialIn K (.builtin "object.__class__") "__get__" = some (some (.builtin "getset_descriptor.__get__")))
    (x_tak : PySem.W.takesIn K (.builtin "object.__class__") = some true)
    (x3_NoCoins : PySem.W.subIn K (.ref C_NoCoins) (.type "BaseException") = some true)
    (x1_NoCoins : PySem.W.findIn K (.ref C_NoCoins) "__getattribute__" = some (some (.builtin "BaseException.__getattribute__")))
    (x2_NoCoins : PySem.W.findIn K (.ref C_NoCoins) "__getattr__" = some none)
    (x4_NoCoins : PySem.W.hasDictIn K C_NoCoins = true)
    (x5_NoCoins : PySem.W.findIn K (.ref C_NoCoins) "__class__" = some (some (.builtin "object.__class__")))
    (x8_NoCoins : PySem.W.mroIn K C_NoCoins (.type "object") = some true) {nm_NoCoins q_NoCoins N_NoCoins bs_NoCoins bm_NoCoins sn_NoCoins sub_NoCoins ab_NoCoins col_NoCoins dd_NoCoins k0_NoCoins k1_NoCoins k2_NoCoins k3_NoCoins k5_NoCoins}
    (xl_NoCoins : K.lookup C_NoCoins = some (excClassObj nm_NoCoins q_NoCoins C_NoCoins N_NoCoins bs_NoCoins bm_NoCoins true sn_NoCoins sub_NoCoins ab_NoCoins col_NoCoins dd_NoCoins k0_NoCoins k1_NoCoins k2_NoCoins k3_NoCoins k5_NoCoins "ValueError.__new__"))
    (xr_NoCoins : PySem.HandSPX.refsVE bm_NoCoins = true)
    (xs_NoCoins : PySem.W.findIn K (.ref C_NoCoins) "__setattr__" = some (some (.builtin "object.__setattr__")))
    (xt_NoCoins : PySem.W.typeIn K (.ref C_NoCoins) = some (.type "type"))
    (xk_NoCoins : PySem.W.keepIn K (.ref C_NoCoins) = true) {oc_NoCoins kV_NoCoins dc_NoCoins pm_NoCoins cd_NoCoins ct_NoCoins : Value} {f_NoCoins : Addr} {od_NoCoins an_NoCoins : Option Addr} {sl_NoCoins : Array (Option Value)}
    (yi_NoCoins : PySem.W.findIn K (.ref C_NoCoins) "__init__" = some (some (.ref f_NoCoins)))
    (yt_NoCoins : PySem.W.typeIn K (.ref f_NoCoins) = some (.type "function"))
    (yl_NoCoins : K.lookup f_NoCoins = some ⟨oc_NoCoins, od_NoCoins, .func (PySem.W.fnOf "__init__" "NoCoins.__init__" (defArgs xt_NoCoins_i) (defBody xt_NoCoins_i) (defScope xt_NoCoins_i) .none kV_NoCoins dc_NoCoins pm_NoCoins an_NoCoins cd_NoCoins ct_NoCoins), sl_NoCoins⟩)
    (yc_NoCoins : PySem.W.codeIn K cd_NoCoins "NoCoins.__init__" = true)
    (yk_NoCoins : PySem.W.keepIn K (.ref f_NoCoins) = true)
    (x3_NoPlace : PySem.W.subIn K (.ref C_NoPlace) (.type "BaseException") = some true)
    (x1_NoPlace : PySem.W.findIn K (.ref C_NoPlace) "__getattribute__" = some (some (.builtin "BaseException.__getattribute__")))
    (x2_NoPlace : PySem.W.findIn K (.ref C_NoPlace) "__getattr__" = some none)
    (x4_NoPlace : PySem.W.hasDictIn K C_NoPlace = true)
    (x5_NoPlace : PySem.W.findIn K (.ref C_NoPlace) "__class__" = some (some (.builtin "object.__class__")))
    (x8_NoPlace : PySem.W.mroIn K C_NoPlace (.type "object") = some true) {nm_NoPlace q_NoPlace N_NoPlace bs_NoPlace bm_NoPlace sn_NoPlace sub_NoPlace ab_NoPlace col_NoPlace dd_NoPlace k0_NoPlace k1_NoPlace k2_NoPlace k3_NoPlace k5_NoPlace}
    (xl_NoPlace : K.lookup C_NoPlace = some (excClassObj nm_NoPlace q_NoPlace C_NoPlace N_NoPlace bs_NoPlace bm_NoPlace true sn_NoPlace sub_NoPlace ab_NoPlace col_NoPlace dd_NoPlace k0_NoPlace k1_NoPlace k2_NoPlace k3_NoPlace k5_NoPlace "ValueError.__new__"))
    (xr_NoPlace : PySem.HandSPX.refsVE bm_NoPlace = true)
    (xs_NoPlace : PySem.W.findIn K (.ref C_NoPlace) "__setattr__" = some (some (.builtin "object.__setattr__")))
    (xt_NoPlace : PySem.W.typeIn K (.ref C_NoPlace) = some (.type "type"))
    (xk_NoPlace : PySem.W.keepIn K (.ref C_NoPlace) = true) {oc_NoPlace kV_NoPlace dc_NoPlace pm_NoPlace cd_NoPlace ct_NoPlace : Value} {f_NoPlace : Addr} {od_NoPlace an_NoPlace : Option Addr} {sl_NoPlace : Array (Option Value)}
    (yi_NoPlace : PySem.W.findIn K (.ref C_NoPlace) "__init__" = some (some (.ref f_NoPlace)))
    (yt_NoPlace : PySem.W.typeIn K (.ref f_NoPlace) = some (.type "function"))
    (yl_NoPlace : K.lookup f_NoPlace = some ⟨oc_NoPlace, od_NoPlace, .func (PySem.W.fnOf "__init__" "NoPlace.__init__" (defArgs xt_NoPlace_i) (defBody xt_NoPlace_i) (defScope xt_NoPlace_i) .none kV_NoPlace dc_NoPlace pm_NoPlace an_NoPlace cd_NoPlace ct_NoPlace), sl_NoPlace⟩)
    (yc_NoPlace : PySem.W.codeIn K cd_NoPlace "NoPlace.__init__" = true)
    (yk_NoPlace : PySem.W.keepIn K (.ref f_NoPlace) = true)
    (x3_NotHopeful : PySem.W.subIn K (.ref C_NotHopeful) (.type "BaseException") = some true)
    (x1_NotHopeful : PySem.W.findIn K (.ref C_NotHopeful) "__getattribute__" = some (some (.builtin "BaseException.__getattribute__")))
    (x2_NotHopeful : PySem.W.findIn K (.ref C_NotHopeful) "__getattr__" = some none)
    (x4_NotHopeful : PySem.W.hasDictIn K C_NotHopeful = true)
    (x5_NotHopeful : PySem.W.findIn K (.ref C_NotHopeful) "__class__" = some (some (.builtin "object.__class__")))
    (x8_NotHopeful : PySem.W.mroIn K C_NotHopeful (.type "object") = some true) {nm_NotHopeful q_NotHopeful N_NotHopeful bs_NotHopeful bm_NotHopeful sn_NotHopeful sub_NotHopeful ab_NotHopeful col_NotHopeful dd_NotHopeful k0_NotHopeful k1_NotHopeful k2_NotHopeful k3_NotHopeful k5_NotHopeful}
    (xl_NotHopeful : K.lookup C_NotHopeful = some (excClassObj nm_NotHopeful q_NotHopeful C_NotHopeful N_NotHopeful bs_NotHopeful bm_NotHopeful true sn_NotHopeful sub_NotHopeful ab_NotHopeful col_NotHopeful dd_NotHopeful k0_NotHopeful k1_NotHopeful k2_NotHopeful k3_NotHopeful k5_NotHopeful "ValueError.__new__"))
    (xr_NotHopeful : PySem.HandSPX.refsVE bm_NotHopeful = true)
    (xs_NotHopeful : PySem.W.findIn K (.ref C_NotHopeful) "__setattr__" = some (some (.builtin "object.__setattr__")))
    (xt_NotHopeful : PySem.W.typeIn K (.ref C_NotHopeful) = some (.type "type"))
    (xk_NotHopeful : PySem.W.keepIn K (.ref C_NotHopeful) = true) {oc_NotHopeful kV_NotHopeful dc_NotHopeful pm_NotHopeful cd_NotHopeful ct_NotHopeful : Value} {f_NotHopeful : Addr} {od_NotHopeful an_NotHopeful : Option Addr} {sl_NotHopeful : Array (Option Value)}
    (yi_NotHopeful : PySem.W.findIn K (.ref C_NotHopeful) "__init__" = some (some (.ref f_NotHopeful)))
    (yt_NotHopeful : PySem.W.typeIn K (.ref f_NotHopeful) = some (.type "function"))
    (yl_NotHopeful : K.lookup f_NotHopeful = some ⟨oc_NotHopeful, od_NotHopeful, .func (PySem.W.fnOf "__init__" "NotHopeful.__init__" (defArgs xt_NotHopeful_i) (defBody xt_NotHopeful_i) (defScope xt_NotHopeful_i) .none kV_NotHopeful dc_NotHopeful pm_NotHopeful an_NotHopeful cd_NotHopeful ct_NotHopeful), sl_NotHopeful⟩)
    (yc_NotHopeful : PySem.W.codeIn K cd_NotHopeful "NotHopeful.__init__" = true)
    (yk_NotHopeful : PySem.W.keepIn K (.ref f_NotHopeful) = true)
    (z_NoCoins_NoCoins : PySem.W.subIn K (.ref C_NoCoins) (.ref C_NoCoins) = some true)
    (z_NoCoins_NoPlace : PySem.W.subIn K (.ref C_NoCoins) (.ref C_NoPlace) = some false)
    (z_NoCoins_NotHopeful : PySem.W.subIn K (.ref C_NoCoins) (.ref C_NotHopeful) = some false)
    (z_NoPlace_NoCoins : PySem.W.subIn K (.ref C_NoPlace) (.ref C_NoCoins) = some false)
    (z_NoPlace_NoPlace : PySem.W.subIn K (.ref C_NoPlace) (.ref C_NoPlace) = some true)
    (z_NoPlace_NotHopeful : PySem.W.subIn K (.ref C_NoPlace) (.ref C_NotHopeful) = some false)
    (z_NotHopeful_NoCoins : PySem.W.subIn K (.ref C_NotHopeful) (.ref C_NoCoins) = some false)
    (z_NotHopeful_NoPlace : PySem.W.subIn K (.ref C_NotHopeful) (.ref C_NoPlace) = some false)
    (z_NotHopeful_NotHopeful : PySem.W.subIn K (.ref C_NotHopeful) (.ref C_NotHopeful) = some true)
    (d_is_integer : Df K mg "is_integer" nt_is_integer ["thing"])
    (d_is_within : Df K mg "is_within" nt_is_within ["thing", "low", "high"])
    (d_is_coins : Df K mg "is_coins" nt_is_coins ["thing"])
    (d_is_letter : Df K mg "is_letter" st_is_letter ["thing"])
    (d_is_rising : Df K mg "is_rising" st_is_rising ["items"])
    (d_is_place : Df K mg "is_place" nt_is_place ["track", "thing"])
    (d_check_place : Df K mg "check_place" nt_check_place ["track", "place"])
    (d_check_coins : Df K mg "check_coins" nt_check_coins ["coins"])
    (d_steps_to : Df K mg "steps_to" nt_steps_to ["ways", "goals"])
    (d_wrong_part : Df K mg "wrong_part" st_wrong_part ["places", "arrows"])
    (d_are_arrows : Df K mg "are_arrows" st_are_arrows ["places", "thing"])
    (d_is_arrow : Df K mg "is_arrow" st_is_arrow ["places", "thing"])
    (d_ways_of : Df K mg "ways_of" st_ways_of ["track"])
    (d_reached : Df K mg "reached" st_reached ["track", "place"])
    (d_reciprocal : Df K mg "reciprocal" nt_reciprocal ["pay"])
    (d_inside : Df K mg "inside" nt_inside ["moves", "lot"])
    (d_ranks : Df K mg "ranks" nt_ranks ["track"])
    (d_short_places : Df K mg "short_places" nt_short_places ["ways", "lot"])
    (d_greatest_full : Df K mg "greatest_full" nt_greatest_full ["track"])
    (d_hopeful : Df K mg "hopeful" nt_hopeful ["track"])
    (d_plain_stake : Df K mg "plain_stake" nt_plain_stake ["track", "place", "lost"])
    (d_check_hopeful : Df K mg "check_hopeful" nt_check_hopeful ["track", "place"])
    (d_plain_at : Df K mg "plain_at" nt_plain_at ["moves", "ranking", "place", "lost"])
    (d_fewest_laid : Df K mg "fewest_laid" nt_fewest_laid ["pays", "lost"])
    (d_plain_coins : Df K mg "plain_coins" nt_plain_coins ["track", "place"])
    (d__law_pot : Df K mg "_law_pot" nt__law_pot ["script"])
    (d__law_draw : Df K mg "_law_draw" nt__law_draw ["pot", "many"])
    (d__law_any : Df K mg "_law_any" nt__law_any ["pot", "items"])
    (d__law_parts : Df K mg "_law_parts" nt__law_parts ["pot", "most_places", "most_letters", "most_pay"])
    (d__law_steps : Df K mg "_law_steps" nt__law_steps ["parts", "place"])
    (d__law_ranks : Df K mg "_law_ranks" nt__law_ranks ["parts"])
    (d__law_reached : Df K mg "_law_reached" nt__law_reached ["parts", "place"])
    (d__law_hopeful : Df K mg "_law_hopeful" nt__law_hopeful ["parts"])
    (d__law_deep : Df K mg "_law_deep" nt__law_deep ["pot"])
    (d__law_word : Df K mg "_law_word" nt__law_word ["kind", "track", "place", "lost"])
    (aL : PySem.W.nsIn K mainGlobals "law" = some (some (.ref fL))) (lL : K.lookup fL = some ⟨ocL, odL, .func (PySem.W.fnOf "law" "law" (defArgs nt_law) (defBody nt_law) (defScope nt_law) .none kVL dcL pmL anL cdL ctL), slL⟩) (cL : PySem.W.codeIn K cdL "law" = true) (kL : PySem.W.keepIn K (.ref fL) = true) :
    ∃ fd : FuncData, (∀ (s : Shared) (v : Value), BindsTo s fd ⟨[v], []⟩ [("script", v)]) ∧ ∀ base : Heap, K.In base → base.Ns mainGlobals mg → FnOk P w K mg base (L2.CX P w) 10 fa fd ["script"] (spF K (prOf sp_law)) := by
  have e := hfa.symm.trans (PySem.W.mg_of X G aL)
  cases e
  exact ⟨PySem.W.fnOf "law" "law" (defArgs nt_law) (defBody nt_law) (defScope nt_law) .none kVL dcL pmL anL cdL ctL, fun s v => .of_eq rfl, fun base _ _ =>
    law_all Bm ⟨⟨tP, PySem.W.mg_of X G aP⟩, ⟨tA, PySem.W.mg_of X G aA⟩, ⟨tY, PySem.W.mg_of X G aY⟩⟩ ⟨⟨pg, hd, po, sa⟩, nP, nA⟩ (PySem.W.mg_of X G aC) ⟨mk, ai, ii, kc⟩ (fun_mk li ci ki) ((fun_mk li ci ki).binds bd_init) (clsI_mk ⟨pg, hd, po, sa⟩ i1 i2 i3 i4 i5 i6 i7 i8 i9 i10) ⟨t_WHOLE, PySem.W.mg_of X G c_WHOLE⟩ (exI_mk X G a_NoCoins x1_NoCoins x2_NoCoins x3_NoCoins x4_NoCoins x5_NoCoins x_get x_tak x8_NoCoins) (exI_mk X G a_NoPlace x1_NoPlace x2_NoPlace x3_NoPlace x4_NoPlace x5_NoPlace x_get x_tak x8_NoPlace) (exI_mk X G a_NotHopeful x1_NotHopeful x2_NotHopeful x3_NotHopeful x4_NotHopeful x5_NotHopeful x_get x_tak x8_NotHopeful) ⟨(exo_mk xl_NoCoins xr_NoCoins xs_NoCoins x3_NoCoins xt_NoCoins xk_NoCoins), PySem.W.mg_of X G a_NoCoins, _, _, yi_NoCoins, yt_NoCoins, fn_pass (fun_mk yl_NoCoins yc_NoCoins yk_NoCoins) xs_NoCoins_i rfl, (fun_mk yl_NoCoins yc_NoCoins yk_NoCoins).binds xb_NoCoins⟩ ⟨(exo_mk xl_NoPlace xr_NoPlace xs_NoPlace x3_NoPlace xt_NoPlace xk_NoPlace), PySem.W.mg_of X G a_NoPlace, _, _, yi_NoPlace, yt_NoPlace, fn_pass (fun_mk yl_NoPlace yc_NoPlace yk_NoPlace) xs_NoPlace_i rfl, (fun_mk yl_NoPlace yc_NoPlace yk_NoPlace).binds xb_NoPlace⟩ ⟨(exo_mk xl_NotHopeful xr_NotHopeful xs_NotHopeful x3_NotHopeful xt_NotHopeful xk_NotHopeful), PySem.W.mg_of X G a_NotHopeful, _, _, yi_NotHopeful, yt_NotHopeful, fn_pass (fun_mk yl_NotHopeful yc_NotHopeful yk_NotHopeful) xs_NotHopeful_i rfl, (fun_mk yl_NotHopeful yc_NotHopeful yk_NotHopeful).binds xb_NotHopeful⟩ (exm_own x3_NoCoins x4_NoCoins xt_NoCoins z_NoCoins_NoCoins) (exm_own x3_NoPlace x4_NoPlace xt_NoPlace z_NoCoins_NoPlace) (exm_own x3_NotHopeful x4_NotHopeful xt_NotHopeful z_NoCoins_NotHopeful) (exm_own x3_NoCoins x4_NoCoins xt_NoCoins z_NoPlace_NoCoins) (exm_own x3_NoPlace x4_NoPlace xt_NoPlace z_NoPlace_NoPlace) (exm_own x3_NotHopeful x4_NotHopeful xt_NotHopeful z_NoPlace_NotHopeful) (exm_own x3_NoCoins x4_NoCoins xt_NoCoins z_NotHopeful_NoCoins) (exm_own x3_NoPlace x4_NoPlace xt_NoPlace z_NotHopeful_NoPlace) (exm_own x3_NotHopeful x4_NotHopeful xt_NotHopeful z_NotHopeful_NotHopeful) d_is_integer d_is_within d_is_coins d_is_letter d_is_rising d_is_place d_check_place d_check_coins d_steps_to d_wrong_part d_are_arrows d_is_arrow d_ways_of d_reached d_reciprocal d_inside d_ranks d_short_places d_greatest_full d_hopeful d_plain_stake d_check_hopeful d_plain_at d_fewest_laid d_plain_coins d__law_pot d__law_draw d__law_any d__law_parts d__law_steps d__law_ranks d__law_reached d__law_hopeful d__law_deep d__law_word (fun_mk lL cL kL)⟩
end Vl
open PySem PySem.W PyProof.Rows
set_option maxRecDepth 100000 in
set_option maxHeartbeats 0 in
theorem PySem.Challenge.cw_wholestakes_k51_plain_plans_refused_holds : PySem.Challenge.rw_wholestakes_k51_plain_plans_refused.Holds := by
  w_on; o_law; k_head; (case hw => w_witness2)
  k_fill
  refine Vl.walkN 10 (l := PySem.Challenge.rw_wholestakes_k51_plain_plans_refused) ⟨rfl, by decide, by decide⟩ rfl rfl (fun w h Y => PySem.W.kIn_of Y) ?F
  case F =>
    intro w mg fa h KX G hmg
    refine' Vl.all_mk KX G hmg (Vl.bl_mk KX G ?z) ?aP ?aA ?aY ?aC ?ai ?ii ?li ?ci ?ki ?mk ?kc ?pg ?hd ?po ?sa ?nP ?nA ?i1 ?i2 ?i3 ?i4 ?i5 ?i6 ?i7 ?i8 ?i9 ?i10 ?c_WHOLE ?a_NoCoins ?a_NoPlace ?a_NotHopeful ?x_get ?x_tak ?x3_NoCoins ?x1_NoCoins ?x2_NoCoins ?x4_NoCoins ?x5_NoCoins ?x8_NoCoins ?xl_NoCoins ?xr_NoCoins ?xs_NoCoins ?xt_NoCoins ?xk_NoCoins ?yi_NoCoins ?yt_NoCoins ?yl_NoCoins ?yc_NoCoins ?yk_NoCoins ?x3_NoPlace ?x1_NoPlace ?x2_NoPlace ?x4_NoPlace ?x5_NoPlace ?x8_NoPlace ?xl_NoPlace ?xr_NoPlace ?xs_NoPlace ?xt_NoPlace ?xk_NoPlace ?yi_NoPlace ?yt_NoPlace ?yl_NoPlace ?yc_NoPlace ?yk_NoPlace ?x3_NotHopeful ?x1_NotHopeful ?x2_NotHopeful ?x4_NotHopeful ?x5_NotHopeful ?x8_NotHopeful ?xl_NotHopeful ?xr_NotHopeful ?xs_NotHopeful ?xt_NotHopeful ?xk_NotHopeful ?yi_NotHopeful ?yt_NotHopeful ?yl_NotHopeful ?yc_NotHopeful ?yk_NotHopeful ?z_NoCoins_NoCoins ?z_NoCoins_NoPlace ?z_NoCoins_NotHopeful ?z_NoPlace_NoCoins ?z_NoPlace_NoPlace ?z_NoPlace_NotHopeful ?z_NotHopeful_NoCoins ?z_NotHopeful_NoPlace ?z_NotHopeful_NotHopeful (Vl.df_mk Vl.bd_is_integer KX G ?a_is_integer ?l_is_integer ?c_is_integer ?k_is_integer) (Vl.df_mk Vl.bd_is_within KX G ?a_is_within ?l_is_within ?c_is_within ?k_is_within) (Vl.df_mk Vl.bd_is_coins KX G ?a_is_coins ?l_is_coins ?c_is_coins ?k_is_coins) (Vl.df_mk Vl.bd_is_letter KX G ?a_is_letter ?l_is_letter ?c_is_letter ?k_is_letter) (Vl.df_mk Vl.bd_is_rising KX G ?a_is_rising ?l_is_rising ?c_is_rising ?k_is_rising) (Vl.df_mk Vl.bd_is_place KX G ?a_is_place ?l_is_place ?c_is_place ?k_is_place) (Vl.df_mk Vl.bd_check_place KX G ?a_check_place ?l_check_place ?c_check_place ?k_check_place) (Vl.df_mk Vl.bd_check_coins KX G ?a_check_coins ?l_check_coins ?c_check_coins ?k_check_coins) (Vl.df_mk Vl.bd_steps_to KX G ?a_steps_to ?l_steps_to ?c_steps_to ?k_steps_to) (Vl.df_mk Vl.bd_wrong_part KX G ?a_wrong_part ?l_wrong_part ?c_wrong_part ?k_wrong_part) (Vl.df_mk Vl.bd_are_arrows KX G ?a_are_arrows ?l_are_arrows ?c_are_arrows ?k_are_arrows) (Vl.df_mk Vl.bd_is_arrow KX G ?a_is_arrow ?l_is_arrow ?c_is_arrow ?k_is_arrow) (Vl.df_mk Vl.bd_ways_of KX G ?a_ways_of ?l_ways_of ?c_ways_of ?k_ways_of) (Vl.df_mk Vl.bd_reached KX G ?a_reached ?l_reached ?c_reached ?k_reached) (Vl.df_mk Vl.bd_reciprocal KX G ?a_reciprocal ?l_reciprocal ?c_reciprocal ?k_reciprocal) (Vl.df_mk Vl.bd_inside KX G ?a_inside ?l_inside ?c_inside ?k_inside) (Vl.df_mk Vl.bd_ranks KX G ?a_ranks ?l_ranks ?c_ranks ?k_ranks) (Vl.df_mk Vl.bd_short_places KX G ?a_short_places ?l_short_places ?c_short_places ?k_short_places) (Vl.df_mk Vl.bd_greatest_full KX G ?a_greatest_full ?l_greatest_full ?c_greatest_full ?k_greatest_full) (Vl.df_mk Vl.bd_hopeful KX G ?a_hopeful ?l_hopeful ?c_hopeful ?k_hopeful) (Vl.df_mk Vl.bd_plain_stake KX G ?a_plain_stake ?l_plain_stake ?c_plain_stake ?k_plain_stake) (Vl.df_mk Vl.bd_check_hopeful KX G ?a_check_hopeful ?l_check_hopeful ?c_check_hopeful ?k_check_hopeful) (Vl.df_mk Vl.bd_plain_at KX G ?a_plain_at ?l_plain_at ?c_plain_at ?k_plain_at) (Vl.df_mk Vl.bd_fewest_laid KX G ?a_fewest_laid ?l_fewest_laid ?c_fewest_laid ?k_fewest_laid) (Vl.df_mk Vl.bd_plain_coins KX G ?a_plain_coins ?l_plain_coins ?c_plain_coins ?k_plain_coins) (Vl.df_mk Vl.bd__law_pot KX G ?a__law_pot ?l__law_pot ?c__law_pot ?k__law_pot) (Vl.df_mk Vl.bd__law_draw KX G ?a__law_draw ?l__law_draw ?c__law_draw ?k__law_draw) (Vl.df_mk Vl.bd__law_any KX G ?a__law_any ?l__law_any ?c__law_any ?k__law_any) (Vl.df_mk Vl.bd__law_parts KX G ?a__law_parts ?l__law_parts ?c__law_parts ?k__law_parts) (Vl.df_mk Vl.bd__law_steps KX G ?a__law_steps ?l__law_steps ?c__law_steps ?k__law_steps) (Vl.df_mk Vl.bd__law_ranks KX G ?a__law_ranks ?l__law_ranks ?c__law_ranks ?k__law_ranks) (Vl.df_mk Vl.bd__law_reached KX G ?a__law_reached ?l__law_reached ?c__law_reached ?k__law_reached) (Vl.df_mk Vl.bd__law_hopeful KX G ?a__law_hopeful ?l__law_hopeful ?c__law_hopeful ?k__law_hopeful) (Vl.df_mk Vl.bd__law_deep KX G ?a__law_deep ?l__law_deep ?c__law_deep ?k__law_deep) (Vl.df_mk Vl.bd__law_word KX G ?a__law_word ?l__law_word ?c__law_word ?k__law_word) ?aL ?lL ?cL ?kL
    (case z =>
      intro x hx
      simp only [Vl.bltN, List.mem_cons, List.not_mem_nil, or_false] at hx
      rcases hx with rfl | rfl | rfl | rfl | rfl | rfl | rfl | rfl | rfl | rfl | rfl | rfl | rfl | rfl | rfl | rfl | rfl | rfl | rfl | rfl | rfl | rfl | rfl
      all_goals k_is)
    (case aP => k_is)
    (case aA => k_is)
    (case aY => k_is)
    (case aC => k_is)
    (case ai => k_is)
    (case ii => k_is)
    (case li => k_is)
    (case ci => k_is)
    (case ki => k_is)
    (case mk => k_is)
    (case kc => k_is)
    (case pg => k_is)
    (case hd => k_is)
    (case po => k_is)
    (case sa => k_is)
    (case nP => k_is)
    (case nA => k_is)
    (case i1 => k_is)
    (case i2 => k_is)
    (case i3 => k_is)
    (case i4 => k_is)
    (case i5 => k_is)
    (case i6 => k_is)
    (case i7 => k_is)
    (case i8 => k_is)
    (case i9 => k_is)
    (case i10 => k_is)
    (case c_WHOLE => k_is)
    (case a_NoCoins => k_is)
    (case a_NoPlace => k_is)
    (case a_NotHopeful => k_is)
    (case x_get => k_is)
    (case x_tak => k_is)
    (case x3_NoCoins => k_is)
    (case x1_NoCoins => k_is)
    (case x2_NoCoins => k_is)
    (case x4_NoCoins => k_is)
    (case x5_NoCoins => k_is)
    (case x8_NoCoins => k_is)
    (case xl_NoCoins => k_is)
    (case xr_NoCoins => rfl)
    (case xs_NoCoins => k_is)
    (case xt_NoCoins => k_is)
    (case xk_NoCoins => k_is)
    (case yi_NoCoins => k_is)
    (case yt_NoCoins => k_is)
    (case yl_NoCoins => k_is)
    (case yc_NoCoins => k_is)
    (case yk_NoCoins => k_is)
    (case x3_NoPlace => k_is)
    (case x1_NoPlace => k_is)
    (case x2_NoPlace => k_is)
    (case x4_NoPlace => k_is)
    (case x5_NoPlace => k_is)
    (case x8_NoPlace => k_is)
    (case xl_NoPlace => k_is)
    (case xr_NoPlace => rfl)
    (case xs_NoPlace => k_is)
    (case xt_NoPlace => k_is)
    (case xk_NoPlace => k_is)
    (case yi_NoPlace => k_is)
    (case yt_NoPlace => k_is)
    (case yl_NoPlace => k_is)
    (case yc_NoPlace => k_is)
    (case yk_NoPlace => k_is)
    (case x3_NotHopeful => k_is)
    (case x1_NotHopeful => k_is)
    (case x2_NotHopeful => k_is)
    (case x4_NotHopeful => k_is)
    (case x5_NotHopeful => k_is)
    (case x8_NotHopeful => k_is)
    (case xl_NotHopeful => k_is)
    (case xr_NotHopeful => rfl)
    (case xs_NotHopeful => k_is)
    (case xt_NotHopeful => k_is)
    (case xk_NotHopeful => k_is)
    (case yi_NotHopeful => k_is)
    (case yt_NotHopeful => k_is)
    (case yl_NotHopeful => k_is)
    (case yc_NotHopeful => k_is)
    (case yk_NotHopeful => k_is)
    (case z_NoCoins_NoCoins => k_is)
    (case z_NoCoins_NoPlace => k_is)
    (case z_NoCoins_NotHopeful => k_is)
    (case z_NoPlace_NoCoins => k_is)
    (case z_NoPlace_NoPlace => k_is)
    (case z_NoPlace_NotHopeful => k_is)
    (case z_NotHopeful_NoCoins => k_is)
    (case z_NotHopeful_NoPlace => k_is)
    (case z_NotHopeful_NotHopeful => k_is)
    (case a_is_integer => k_is)
    (case l_is_integer => k_is)
    (case c_is_integer => k_is)
    (case k_is_integer => k_is)
    (case a_is_within => k_is)
    (case l_is_within => k_is)
    (case c_is_within => k_is)
    (case k_is_within => k_is)
    (case a_is_coins => k_is)
    (case l_is_coins => k_is)
    (case c_is_coins => k_is)
    (case k_is_coins => k_is)
    (case a_is_letter => k_is)
    (case l_is_letter => k_is)
    (case c_is_letter => k_is)
    (case k_is_letter => k_is)
    (case a_is_rising => k_is)
    (case l_is_rising => k_is)
    (case c_is_rising => k_is)
    (case k_is_rising => k_is)
    (case a_is_place => k_is)
    (case l_is_place => k_is)
    (case c_is_place => k_is)
    (case k_is_place => k_is)
    (case a_check_place => k_is)
    (case l_check_place => k_is)
    (case c_check_place => k_is)
    (case k_check_place => k_is)
    (case a_check_coins => k_is)
    (case l_check_coins => k_is)
    (case c_check_coins => k_is)
    (case k_check_coins => k_is)
    (case a_steps_to => k_is)
    (case l_steps_to => k_is)
    (case c_steps_to => k_is)
    (case k_steps_to => k_is)
    (case a_wrong_part => k_is)
    (case l_wrong_part => k_is)
    (case c_wrong_part => k_is)
    (case k_wrong_part => k_is)
    (case a_are_arrows => k_is)
    (case l_are_arrows => k_is)
    (case c_are_arrows => k_is)
    (case k_are_arrows => k_is)
    (case a_is_arrow => k_is)
    (case l_is_arrow => k_is)
    (case c_is_arrow => k_is)
    (case k_is_arrow => k_is)
    (case a_ways_of => k_is)
    (case l_ways_of => k_is)
    (case c_ways_of => k_is)
    (case k_ways_of => k_is)
    (case a_reached => k_is)
    (case l_reached => k_is)
    (case c_reached => k_is)
    (case k_reached => k_is)
    (case a_reciprocal => k_is)
    (case l_reciprocal => k_is)
    (case c_reciprocal => k_is)
    (case k_reciprocal => k_is)
    (case a_inside => k_is)
    (case l_inside => k_is)
    (case c_inside => k_is)
    (case k_inside => k_is)
    (case a_ranks => k_is)
    (case l_ranks => k_is)
    (case c_ranks => k_is)
    (case k_ranks => k_is)
    (case a_short_places => k_is)
    (case l_short_places => k_is)
    (case c_short_places => k_is)
    (case k_short_places => k_is)
    (case a_greatest_full => k_is)
    (case l_greatest_full => k_is)
    (case c_greatest_full => k_is)
    (case k_greatest_full => k_is)
    (case a_hopeful => k_is)
    (case l_hopeful => k_is)
    (case c_hopeful => k_is)
    (case k_hopeful => k_is)
    (case a_plain_stake => k_is)
    (case l_plain_stake => k_is)
    (case c_plain_stake => k_is)
    (case k_plain_stake => k_is)
    (case a_check_hopeful => k_is)
    (case l_check_hopeful => k_is)
    (case c_check_hopeful => k_is)
    (case k_check_hopeful => k_is)
    (case a_plain_at => k_is)
    (case l_plain_at => k_is)
    (case c_plain_at => k_is)
    (case k_plain_at => k_is)
    (case a_fewest_laid => k_is)
    (case l_fewest_laid => k_is)
    (case c_fewest_laid => k_is)
    (case k_fewest_laid => k_is)
    (case a_plain_coins => k_is)
    (case l_plain_coins => k_is)
    (case c_plain_coins => k_is)
    (case k_plain_coins => k_is)
    (case a__law_pot => k_is)
    (case l__law_pot => k_is)
    (case c__law_pot => k_is)
    (case k__law_pot => k_is)
    (case a__law_draw => k_is)
    (case l__law_draw => k_is)
    (case c__law_draw => k_is)
    (case k__law_draw => k_is)
    (case a__law_any => k_is)
    (case l__law_any => k_is)
    (case c__law_any => k_is)
    (case k__law_any => k_is)
    (case a__law_parts => k_is)
    (case l__law_parts => k_is)
    (case c__law_parts => k_is)
    (case k__law_parts => k_is)
    (case a__law_steps => k_is)
    (case l__law_steps => k_is)
    (case c__law_steps => k_is)
    (case k__law_steps => k_is)
    (case a__law_ranks => k_is)
    (case l__law_ranks => k_is)
    (case c__law_ranks => k_is)
    (case k__law_ranks => k_is)
    (case a__law_reached => k_is)
    (case l__law_reached => k_is)
    (case c__law_reached => k_is)
    (case k__law_reached => k_is)
    (case a__law_hopeful => k_is)
    (case l__law_hopeful => k_is)
    (case c__law_hopeful => k_is)
    (case k__law_hopeful => k_is)
    (case a__law_deep => k_is)
    (case l__law_deep => k_is)
    (case c__law_deep => k_is)
    (case k__law_deep => k_is)
    (case a__law_word => k_is)
    (case l__law_word => k_is)
    (case c__law_word => k_is)
    (case k__law_word => k_is)
    (case aL => k_is)
    (case lL => k_is)
    (case cL => k_is)
    (case kL => k_is)
end
