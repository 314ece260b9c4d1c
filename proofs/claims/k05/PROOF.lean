import PyProof.Rows.All
import Wide.All
import OpenK.AllK
import Wide.FinOn
import HandS.ForMost
import HandS.Wide
import HandS.Gcd
import HandS.IsInst
import HandS.TupAny
import HandS.SortInts
import HandS.Style
import HandS.Codes
import HandS.Walk
import HandS.RaiseMore
import HandS.TupMul
import HandS.WideBits
import HandS.Zip
import KE.KSortTupUse
import KE.KDictCopyH
import HandS.More
import KE.KDictPairs
import PyProof.Rows.StrMeet
import HandS.Exc
import HandS.ExcValue
import HandS.ExcInit
import HandS.ExcIs
import HandS.ExcField
import HandS.ClsMeth
import KE.KExcIs
import KE.KIsAll
import HandS.FStr
import HandS.ExcOwn
import HandS.Rev
import KE.GoesMore
import PyProof.P3In
import HandS.TupLen
import HandS.WordsExc
import HandS.Conv
import PySem.Challenge.RW_dustwithin_k05_points_by_ways
set_option Elab.async false
set_option maxRecDepth 100000
namespace My
open PySem PySem.Spec PyProof.Rows L2

/-! ### sorted(t), t a tuple of ints -/
section
variable {prog : Program} {w : World} {A : Around} {E : Value → Shared → Prop} {s : Shared}
theorem gather_tup {t : Addr} {us : List Value} {Q : List Value → Shared → Prop} (ht : IsTup s.heap t us.toArray) (hz : us.length ≤ sizeLine)
    (q : Q us { s with heap := (s.heap.push (seqObj "list" #[] 0)).update s.heap.objs.size (Obj.mapSeq (· ++ us.toArray)) }) : wpAny (model prog w) A (collect (.ref t)) Q E s := by
  obtain ⟨ob, hob, hcl, m, hdat⟩ := ht
  unfold collect
  refine wpAny_bind (wpAny_runValue (codeAny_builtin entry_proto_collect' ?_))
  show wpAny _ _ (do again (.builtin "list.__iadd__" ⟨[← newList [], .ref t], []⟩)) _ _ s
  refine wpAny_bind (wpAny_newList (wpAny_pure ⟨Code.quiet_builtin _ (by decide +kernel), codeAny_builtin entry_list_iadd' ?_⟩))
  show wpAny _ _ (Builtin.List.listExtendWith (.ref s.heap.objs.size) (.ref t) (.ref s.heap.objs.size)) _ _ { s with heap := s.heap.push (seqObj "list" #[] 0) }
  unfold Builtin.List.listExtendWith
  have hob1 : (s.heap.push (seqObj "list" #[] 0)).get? t = some ob := Heap.get?_push_of_some _ hob
  have e2 : (Value.type "tuple" == Value.type "tuple") = true := by rfl
  refine wpAny_bind (wpAny_typeOf (T := "tuple") ⟨ob, hob1, hcl⟩ ?_); rw [if_pos (by rw [e2]; simp)]
  refine wpAny_bind (listItems_at hob1 hdat ?_); refine wpAny_bind (listItems_at (n := 0) (xs := #[]) (Heap.get?_push_size _ rfl) rfl ?_); rw [if_neg (by simp)]
  refine wpAny_bind (listUpdate_at (n := 0) (xs := #[]) (Heap.get?_push_size _ rfl) rfl ?_ (Nat.zero_le _) (by show (#[] ++ us.toArray).size ≤ sizeLine + 1; simp only [Array.size_append, List.size_toArray, List.length_nil]; omega))
  refine wpAny_pure ?_; show wpAny (model prog w) A (do
      let ob ← load s.heap.objs.size
      match ob.data with
      | .seq xs _ => pure xs.toList
      | _ => unsupported "internal:collect") Q E { s with heap := (s.heap.push (seqObj "list" #[] 0)).update s.heap.objs.size (Obj.mapSeq (· ++ us.toArray)) }
  refine wpAny_bind (wpAny_load (get?_update_seq (Heap.get?_push_size _ rfl) _) ?_)
  show wpAny _ _ (pure ((#[] : Array Value) ++ us.toArray).toList) Q E _
  rw [show ((#[] : Array Value) ++ us.toArray).toList = us by simp]; exact wpAny_pure q
theorem sorted_tup {t : Addr} {us : List Value} {ms : List Int} {Q : Value → Shared → Prop} (ht : IsTup s.heap t us.toArray) (hI : IntsAre us ms) (h64 : us.length < 64)
    (q : ∀ (out : Array Value) (ms' : List Int), IntsAre out.toList ms' → ms'.Perm ms → ms'.Pairwise (· ≤ ·) → Q (.ref (s.heap.objs.size + 1)) { s with heap := sortedAll s.heap us out }) :
    wpAny (model prog w) A (call (.builtin "sorted") [.ref t]) Q E s := by
  refine Calls.call_function_entry kind_sorted plain_sorted entry_sorted (args_sorted1 _) ?_; unfold Builtin.«sorted»
  refine wpAny_bind (m := checkCount "sorted" 1 1 _) (wpAny_pure ?_)
  refine wpAny_bind (gather_tup ht (small64 h64) ?_); refine wpAny_bind (wpAny_newList ?_ (small64 h64))
  have k1 : ((s.heap.push (seqObj "list" #[] 0)).update s.heap.objs.size (Obj.mapSeq (· ++ us.toArray))).objs.size = s.heap.objs.size + 1 := by rw [Heap.size_update, size_push']
  have k2 : (((s.heap.push (seqObj "list" #[] 0)).update s.heap.objs.size (Obj.mapSeq (· ++ us.toArray))).push (seqObj "list" us.toArray 0)).get? (s.heap.objs.size + 1) = some (seqObj "list" us.toArray 0) := by rw [← k1]; exact Heap.get?_push_size _ rfl
  show wpAny _ _ _ _ _ { s with heap := ((s.heap.push (seqObj "list" #[] 0)).update s.heap.objs.size (Obj.mapSeq (· ++ us.toArray))).push (seqObj "list" us.toArray 0) }
  rw [k1]
  refine wpAny_bind (wpAny_holding (wpAny_call_entry slot_list_sort ⟨_, k2, rfl⟩ entry_list_sort (list_sort_tree k2 hI h64 fun out ms' a1 a2 a3 => ⟨_, rfl, ?_⟩) (args_list_sort _)))
  exact wpAny_pure ⟨_, rfl, q out ms' a1 a2 a3⟩
end
section
variable {X : Cx}
theorem cr_sortedTup : CallR X (.builtin "sorted") (fun vs H Q => ∃ (a : Addr) (ms : List Int), vs = [V.ref a] ∧ SqT X.K H a (ms.map V.int) ∧ ms.length < 64 ∧
    ∀ (ms' : List Int) (p : Addr), ms'.Perm ms → ms'.Pairwise (· ≤ ·) → H p = none → Q (.ref p) (upd H p (.lst (ms'.map V.int)))) := by
  intro pins s σ H vs us Q I r h
  obtain ⟨a, ms, rfl, hs, h64, q⟩ := h
  obtain ⟨its, rv, hl, _⟩ := I.tuple hs
  rw [Vals.ref1 r]
  have hi := rv.ints
  refine sorted_tup hl hi (by rw [hi.length]; exact h64) fun out ms' h1 h2 h3 => ?_
  obtain ⟨ep, he⟩ := PyProof.Rows.sortedAll_at s.heap its out
  have hlen : (ms'.map V.int).length ≤ sizeLine := by rw [List.length_map, h2.length_eq]; exact small64 h64
  exact ⟨.ref _, upd H (s.heap.objs.size + 1) (.lst (ms'.map V.int)), I.laid (t' := s.toks) (fun _ _ => sortedAll_old) (Nat.le_succ _) ⟨hlen, out.toList, ep, vals_of_ints h1, he⟩, rfl, q ms' _ h2 h3 (I.hok.fresh (Nat.le_succ _))⟩
end

/-! ### data that stands still: G is a part of the heap that nothing writes -/
mutual
inductive Dq (K : PySem.W.Frag) (G : Hp) : V → PyData → Prop
  | non : Dq K G .non .none
  | bl (b : Bool) : Dq K G (.bl b) (.bool b)
  | int (i : Int) : Dq K G (.int i) (.int i)
  | str (x : Str) : Dq K G (.str x) (.str x)
  | lst {a : Addr} {xs : List V} {ds : List PyData} : G a = some (.lst xs) → DqAll K G xs ds → Dq K G (.ref a) (.list ds)
  | tup {a : Addr} {xs : List V} {ds : List PyData} : G a = some (.tup xs) → DqAll K G xs ds → Dq K G (.ref a) (.tuple ds)
  | dct {a : Addr} {kvs : List (Key × V)} {ds : List (PyData × PyData)} : G a = some (.dK kvs) → DqAll K G (kvs.map fun kv => kV kv.1) (ds.map (·.1)) → DqAll K G (kvs.map (·.2)) (ds.map (·.2)) → Dq K G (.ref a) (.dict ds)
inductive DqAll (K : PySem.W.Frag) (G : Hp) : List V → List PyData → Prop
  | nil : DqAll K G [] []
  | cons {v : V} {vs : List V} {d : PyData} {ds : List PyData} : Dq K G v d → DqAll K G vs ds → DqAll K G (v :: vs) (d :: ds)
end
section
variable {K : PySem.W.Frag} {G G' H : Hp}
mutual
theorem Dq.mono (e : Same G G') : ∀ {v : V} {d : PyData}, Dq K G v d → Dq K G' v d
  | _, _, .non => .non
  | _, _, .bl b => .bl b
  | _, _, .int i => .int i
  | _, _, .str x => .str x
  | _, _, .lst h t => .lst (e _ _ h) (DqAll.mono e t)
  | _, _, .tup h t => .tup (e _ _ h) (DqAll.mono e t)
  | _, _, .dct h t u => .dct (e _ _ h) (DqAll.mono e t) (DqAll.mono e u)
theorem DqAll.mono (e : Same G G') : ∀ {vs : List V} {ds : List PyData}, DqAll K G vs ds → DqAll K G' vs ds
  | _, _, .nil => .nil
  | _, _, .cons h t => .cons (Dq.mono e h) (DqAll.mono e t)
end
theorem DqAll.append : ∀ {vs ws : List V} {ds es : List PyData}, DqAll K G vs ds → DqAll K G ws es → DqAll K G (vs ++ ws) (ds ++ es)
  | _, _, _, _, .nil, t => t
  | _, _, _, _, .cons h r, t => .cons h (DqAll.append r t)
theorem DqAll.get : ∀ {vs : List V} {ds : List PyData} {i : Nat} {v : V}, DqAll K G vs ds → vs[i]? = some v → ∃ d, ds[i]? = some d ∧ Dq K G v d
  | _, _, _, _, .nil, e => by simp at e
  | _, _, 0, _, .cons h _, e => by simp at e; subst e; exact ⟨_, rfl, h⟩
  | _, _, i + 1, v, .cons _ t, e => by
    obtain ⟨d, h1, h2⟩ := DqAll.get (i := i) (v := v) t (by simpa using e)
    exact ⟨d, by simpa using h1, h2⟩
theorem DqAll.len : ∀ {vs : List V} {ds : List PyData}, DqAll K G vs ds → vs.length = ds.length
  | _, _, .nil => rfl
  | _, _, .cons _ t => by rw [List.length_cons, List.length_cons, DqAll.len t]
theorem DqAll.drop : ∀ {vs : List V} {ds : List PyData} (n : Nat), DqAll K G vs ds → DqAll K G (vs.drop n) (ds.drop n)
  | _, _, 0, h => h
  | _, _, _ + 1, .nil => .nil
  | _, _, n + 1, .cons _ t => DqAll.drop n t
theorem DqAll.take : ∀ {vs : List V} {ds : List PyData} (n : Nat), DqAll K G vs ds → DqAll K G (vs.take n) (ds.take n)
  | _, _, 0, _ => .nil
  | _, _, _ + 1, .nil => .nil
  | _, _, n + 1, .cons h t => .cons h (DqAll.take n t)
theorem DqAll.rev : ∀ {vs : List V} {ds : List PyData}, DqAll K G vs ds → DqAll K G vs.reverse ds.reverse
  | _, _, .nil => .nil
  | _, _, .cons h t => by
    rw [List.reverse_cons, List.reverse_cons]
    exact DqAll.append (DqAll.rev t) (.cons h .nil)
theorem dq_ints (K : PySem.W.Frag) (G : Hp) : ∀ ns : List Int, DqAll K G (ns.map V.int) (ns.map PyData.int)
  | [] => .nil
  | n :: r => .cons (.int n) (dq_ints K G r)
end
mutual
def hasList : PyData → Bool
  | .list _ => true
  | .tuple xs => hasListAll xs
  | .dict kvs => hasListKv kvs
  | _ => false
def hasListAll : List PyData → Bool
  | [] => false
  | x :: xs => hasList x || hasListAll xs
def hasListKv : List (PyData × PyData) → Bool
  | [] => false
  | (k, v) :: r => hasList k || hasList v || hasListKv r
end
theorem hasListKv_split : ∀ kvs : List (PyData × PyData), hasListKv kvs = false → hasListAll (kvs.map (·.1)) = false ∧ hasListAll (kvs.map (·.2)) = false
  | [], _ => ⟨rfl, rfl⟩
  | (k, v) :: r, h => by
    simp only [hasListKv, Bool.or_eq_false_iff] at h
    obtain ⟨a, b⟩ := hasListKv_split r h.2
    simp only [List.map_cons, hasListAll, Bool.or_eq_false_iff]
    exact ⟨⟨h.1.1, a⟩, h.1.2, b⟩
section
variable {X : Cx} {pins : List (Addr × Obj)} {σ : L2.St} {H : Hp} {s : Shared}
theorem kv_keys {P : Program} {w : World} : ∀ {kvs : List (Key × V)} {vs : List (Key × Value)} {es : List DictEntry}, KV kvs vs → Pairs (mixKind P w) es vs → Vals (kvs.map fun kv => kV kv.1) (es.map (·.key)) ∧ Vals (kvs.map (·.2)) (es.map (·.val))
  | _, _, _, .nil, .nil => ⟨.nil, .nil⟩
  | (k, v) :: _, (k', v') :: _, _ :: _, .cons ⟨h1, h2⟩ t, .cons g1 g2 g3 => by
    obtain ⟨a, b⟩ := kv_keys t g3
    refine ⟨.cons ?_ a, .cons ?_ b⟩
    · have e : k = k' := h1
      subst e
      rcases keyIs_shape (show keyIs k _ = true from g1) with ⟨i, tk, rfl, e2⟩ | ⟨x, tk, rfl, e2⟩
      · exact ⟨tk, e2⟩
      · exact ⟨tk, e2⟩
    · have e2 : (_ : DictEntry).val = v' := g2
      show RelV v (DictEntry.val _)
      rw [e2]; exact h2
mutual
theorem Dq.reads (I : Inv X pins σ H s) : ∀ (d : PyData) (v : V) (u : Value), Dq X.K H v d → RelV v u → ∃ as, Reads s.heap u d as ∧ (hasList d = false → sysModules ∉ as)
  | .none, _, _, h, r => by cases h; cases r; exact ⟨_, Reads.none, fun _ z => nomatch z⟩
  | .bool b, _, _, h, r => by cases h; cases r; exact ⟨_, Reads.bool b, fun _ z => nomatch z⟩
  | .int i, _, _, h, r => by cases h; obtain ⟨t, rfl⟩ := r; exact ⟨_, Reads.int i t, fun _ z => nomatch z⟩
  | .str x, _, _, h, r => by cases h; obtain ⟨t, rfl⟩ := r; exact ⟨_, Reads.str x t, fun _ z => nomatch z⟩
  | .list ds, _, _, h, r => by
    cases h with
    | lst hs ha =>
      cases r
      obtain ⟨_, its, n, rv, ho⟩ := I.hok _ _ hs
      obtain ⟨as, hr, _⟩ := DqAll.reads I ds _ its ha rv
      exact ⟨_, Reads.list ho rfl rfl (by simpa using hr), fun z => nomatch z⟩
  | .tuple ds, _, _, h, r => by
    cases h with
    | tup hs ha =>
      cases r
      obtain ⟨_, its, rv, o, ho, hc, n, hd⟩ := I.hok _ _ hs
      obtain ⟨as, hr, hn⟩ := DqAll.reads I ds _ its ha rv
      exact ⟨_, Reads.tuple ho hc hd (by simpa using hr), fun z => hn (by simpa only [hasList] using z)⟩
  | .dict ds, _, _, h, r => by
    cases h with
    | dct hs hk hv =>
      rename_i a kvs
      cases r
      obtain ⟨_, hm, vs, rel, o, es, ep, ho, hx, hd, _, hp, _⟩ := I.hok _ _ hs
      obtain ⟨r1, r2⟩ := kv_keys rel hp
      obtain ⟨as, q1, n1⟩ := DqAll.readsK I ds _ _ hk r1
      obtain ⟨bs, q2, n2⟩ := DqAll.readsV I ds _ _ hv r2
      refine ⟨_, Reads.dict ho hx.1 hd q1 q2, fun z => ?_⟩
      obtain ⟨z1, z2⟩ := hasListKv_split ds (by simpa only [hasList] using z)
      intro hmem
      rcases List.mem_append.mp hmem with hmem | hmem
      · rcases List.mem_cons.mp hmem with e | e
        · rw [← e] at hm; simp at hm
        · exact n1 z1 e
      · exact n2 z2 hmem
theorem DqAll.reads (I : Inv X pins σ H s) : ∀ (ds : List PyData) (vs : List V) (us : List Value), DqAll X.K H vs ds → Vals vs us → ∃ as, ReadsAll s.heap us ds as ∧ (hasListAll ds = false → sysModules ∉ as)
  | [], _, _, h, r => by cases h; cases r; exact ⟨_, ReadsAll.nil, fun _ z => nomatch z⟩
  | d :: ds, _, _, h, r => by
    cases h with
    | cons h1 h2 =>
      cases r with
      | cons r1 r2 =>
        obtain ⟨as, q1, n1⟩ := Dq.reads I d _ _ h1 r1
        obtain ⟨bs, q2, n2⟩ := DqAll.reads I ds _ _ h2 r2
        refine ⟨_, ReadsAll.cons q1 q2, fun z hm => ?_⟩
        simp only [hasListAll, Bool.or_eq_false_iff] at z
        rcases List.mem_append.mp hm with e | e
        · exact n1 z.1 e
        · exact n2 z.2 e
theorem DqAll.readsK (I : Inv X pins σ H s) : ∀ (ds : List (PyData × PyData)) (vs : List V) (us : List Value), DqAll X.K H vs (ds.map (·.1)) → Vals vs us → ∃ as, ReadsAll s.heap us (ds.map (·.1)) as ∧ (hasListAll (ds.map (·.1)) = false → sysModules ∉ as)
  | [], _, _, h, r => by cases h; cases r; exact ⟨_, ReadsAll.nil, fun _ z => nomatch z⟩
  | (d, d') :: ds, _, _, h, r => by
    cases h with
    | cons h1 h2 =>
      cases r with
      | cons r1 r2 =>
        obtain ⟨as, q1, n1⟩ := Dq.reads I d _ _ h1 r1
        obtain ⟨bs, q2, n2⟩ := DqAll.readsK I ds _ _ h2 r2
        refine ⟨_, ReadsAll.cons q1 q2, fun z hm => ?_⟩
        simp only [List.map_cons, hasListAll, Bool.or_eq_false_iff] at z
        rcases List.mem_append.mp hm with e | e
        · exact n1 z.1 e
        · exact n2 z.2 e
theorem DqAll.readsV (I : Inv X pins σ H s) : ∀ (ds : List (PyData × PyData)) (vs : List V) (us : List Value), DqAll X.K H vs (ds.map (·.2)) → Vals vs us → ∃ as, ReadsAll s.heap us (ds.map (·.2)) as ∧ (hasListAll (ds.map (·.2)) = false → sysModules ∉ as)
  | [], _, _, h, r => by cases h; cases r; exact ⟨_, ReadsAll.nil, fun _ z => nomatch z⟩
  | (d, d') :: ds, _, _, h, r => by
    cases h with
    | cons h1 h2 =>
      cases r with
      | cons r1 r2 =>
        obtain ⟨as, q1, n1⟩ := Dq.reads I d' _ _ h1 r1
        obtain ⟨bs, q2, n2⟩ := DqAll.readsV I ds _ _ h2 r2
        refine ⟨_, ReadsAll.cons q1 q2, fun z hm => ?_⟩
        simp only [List.map_cons, hasListAll, Bool.or_eq_false_iff] at z
        rcases List.mem_append.mp hm with e | e
        · exact n1 z.1 e
        · exact n2 z.2 e
end
end
end My

namespace My
open PySem PySem.Spec PyProof.Rows L2
def topS (i : Nat) : Stmt := PySem.Challenge.pw_dustwithin_k05_points_by_ways.main.body.getD i (.Pass ⟨0, 0, 0, 0⟩)
abbrev sSpread : Stmt := topS 26
abbrev sOpen : Stmt := topS 27
abbrev sTake : Stmt := topS 28
/-! ### the pen -/
structure PenAt (H : Hp) (p : Addr) (t : Nat) : Prop where
  ex : ∃ (c : Addr) (cells : List Int) (at' rest : Int), H p = some (.lst [.ref c, .int at', .int rest]) ∧ H c = some (.lst (cells.map V.int)) ∧ 0 ≤ at' ∧ at' ≤ (t : Int)
theorem ne_len {H : Hp} {p c : Addr} {xs ys : List V} (h : H p = some (.lst xs)) (g : H c = some (.lst ys)) (e : xs ≠ ys) : c ≠ p := by
  intro z; subst z; rw [h] at g; cases g; exact e rfl
theorem pen_ne {H : Hp} {p c : Addr} {x : Addr} {i j : Int} {cells : List Int} (h : H p = some (.lst [.ref x, .int i, .int j])) (g : H c = some (.lst (cells.map V.int))) : c ≠ p :=
  ne_len h g (by intro z; cases cells with | nil => cases z | cons a r => cases z)
def But (p : Addr) (H H' : Hp) : Prop := ∀ b o, b ≠ p → H b = some o → H' b = some o
theorem But.of {p : Addr} {H H' : Hp} (e : Same H H') : But p H H' := fun b o _ => e b o
theorem But.trans {p : Addr} {H H1 H2 : Hp} (a : But p H H1) (b : But p H1 H2) : But p H H2 := fun c o n h => b c o n (a c o n h)
theorem But.upd {p : Addr} {H : Hp} {o : HO} : But p H (upd H p o) := fun b u n h => by rw [upd_ne n]; exact h
theorem PenAt.same {H H' : Hp} {p : Addr} {t u : Nat} (e : Same H H') (h : t ≤ u) (P : PenAt H p t) : PenAt H' p u := by
  obtain ⟨c, cells, x, y, h1, h2, h3, h4⟩ := P.ex
  exact ⟨c, cells, x, y, e _ _ h1, e _ _ h2, h3, by omega⟩
theorem Same.upd {H : Hp} {p : Addr} {o : HO} (n : H p = none) : Same H (upd H p o) := fun b u h => by rw [upd_ne (ne_of_none h n)]; exact h
structure PenC (H : Hp) (p c : Addr) (t : Nat) : Prop where
  ex : ∃ (cells : List Int) (at' rest : Int), H p = some (.lst [.ref c, .int at', .int rest]) ∧ H c = some (.lst (cells.map V.int)) ∧ 0 ≤ at' ∧ at' ≤ (t : Int)
theorem PenC.any {H : Hp} {p c : Addr} {t : Nat} (h : PenC H p c t) : PenAt H p t := by
  obtain ⟨cells, x, y, h⟩ := h.ex
  exact ⟨c, cells, x, y, h⟩
theorem PenAt.c {H : Hp} {p : Addr} {t : Nat} (h : PenAt H p t) : ∃ c, PenC H p c t := by
  obtain ⟨c, cells, x, y, h⟩ := h.ex
  exact ⟨c, cells, x, y, h⟩
theorem PenC.same {H H' : Hp} {p c : Addr} {t u : Nat} (e : Same H H') (h : t ≤ u) (P : PenC H p c t) : PenC H' p c u := by
  obtain ⟨cells, x, y, h1, h2, h3, h4⟩ := P.ex
  exact ⟨cells, x, y, e _ _ h1, e _ _ h2, h3, by omega⟩
theorem PenC.at_c {H : Hp} {p c : Addr} {t : Nat} (h : PenC H p c t) : H c ≠ none := by
  obtain ⟨cells, x, y, h1, h2, _⟩ := h.ex
  rw [h2]; exact fun z => nomatch z
theorem PenC.upd {H : Hp} {p c : Addr} {t u : Nat} (P : PenC H p c t) {q : Addr} (h1 : q ≠ p) (h2 : q ≠ c) (h : t ≤ u) (o : HO) : PenC (upd H q o) p c u := by
  obtain ⟨cells, x, y, g1, g2, g3, g4⟩ := P.ex
  exact ⟨cells, x, y, by rw [upd_ne h1.symm]; exact g1, by rw [upd_ne h2.symm]; exact g2, g3, by omega⟩
/-! ### promises -/
def spSpread : Sp := fun vs H Q _ => ∃ (c a : Int), vs = [.int c, .int a] ∧ 0 ≤ a ∧ a < 2 ^ 30 ∧ ∀ (r : Int) (H' : Hp), Same H H' → Q (.int r) H'
def spOpen (K : PySem.W.Frag) : Sp := fun vs H Q _ => ∃ (a : Addr) (ns : List Int), vs = [.ref a] ∧ SqL K H a (ns.map V.int) ∧ ns.length ≤ 63 ∧ ∀ (p : Addr) (H' : Hp), H p = none → Same H H' → PenAt H' p 0 → Q (.ref p) H'
def spTake : Sp := fun vs H Q _ => ∃ (p : Addr) (n : Int) (t : Nat), vs = [.ref p, .int n] ∧ 0 < n ∧ n.natAbs < 2 ^ 8000 ∧ PenAt H p t ∧ t < 2 ^ 29 ∧ ∀ (m : Int) (H' : Hp), 0 ≤ m → m < n → But p H H' → PenAt H' p (t + 1) → Q (.int m) H'
def spTakeC : Sp := fun vs H Q _ => ∃ (p c : Addr) (n : Int) (t : Nat), vs = [.ref p, .int n] ∧ 0 < n ∧ n.natAbs < 2 ^ 8000 ∧ PenC H p c t ∧ t < 2 ^ 29 ∧ ∀ (m : Int) (H' : Hp), 0 ≤ m → m < n → But p H H' → PenC H' p c (t + 1) → Q (.int m) H'
section
variable {P : Program} {w : World} {K : PySem.W.Frag} {mg : Str → Option Value} {base : Heap}
def primesV : List V := [.int 2147483629, .int 2147483587, .int 2147483579, .int 2147483563, .int 2147483549, .int 2147483543, .int 2147483497, .int 2147483489] ++ [.int 2147483477, .int 2147483423, .int 2147483399, .int 2147483353, .int 2147483323]
theorem prime_at {j : Int} (h0 : 0 ≤ j) (h1 : j < 13) : ∃ q : Int, atI primesV j = some (.int q) ∧ 0 < q ∧ q < 2147483648 := by
  have h : j = 0 ∨ j = 1 ∨ j = 2 ∨ j = 3 ∨ j = 4 ∨ j = 5 ∨ j = 6 ∨ j = 7 ∨ j = 8 ∨ j = 9 ∨ j = 10 ∨ j = 11 ∨ j = 12 := by omega
  rcases h with rfl | rfl | rfl | rfl | rfl | rfl | rfl | rfl | rfl | rfl | rfl | rfl | rfl <;> exact ⟨_, rfl, by decide, by decide⟩
theorem mod_at {x : Int} : 0 ≤ x % 13 ∧ x % 13 < 13 := ⟨Int.emod_nonneg _ (by decide), Int.emod_lt_of_pos _ (by decide)⟩
theorem mod_lt {x q : Int} (h : 0 < q) (h2 : q < 2147483648) : 0 ≤ x % q ∧ x % q < 2147483648 := ⟨Int.emod_nonneg _ (by omega), by have := Int.emod_lt_of_pos x h; omega⟩
theorem scSpread : FnScope ["cell", "at", "primes", "one", "two", "three"] ["cell", "at"] (defScope sSpread) := ⟨rfl, rfl, rfl, by decide +kernel, rfl, by decide +kernel, by decide +kernel⟩
theorem pow_ok {i : Int} {j : Int} (hj : j = 3 ∨ j = 5) (h0 : 0 ≤ i) (h1 : i < 2 ^ 64) : CPow i j := by
  refine ⟨by omega, by omega, ?_⟩
  omega
theorem ok_spread {f : Addr} {fd : FuncData} (F : Fun K "_law_spread" "_law_spread" sSpread f fd) : FnOk P w K mg base CX0 1 f fd ["cell", "at"] spSpread := by
  refine F.ok scSpread (fun vs H Q E h => ?_) (fun cdv A outer s H vs Q E hr h => ?_)
  · obtain ⟨c, a, rfl, _⟩ := h
    rfl
  · obtain ⟨c, a, rfl, ha0, ha1, k⟩ := h
    refine ⟨_, pss_cons (ps_if (pt_cmpR op_ge (pv 0) (pe_op op_pow pe_int pe_int) (nomark _)) (pss_one (ps_ret (pv 0))) pss_nil)
      (pss_cons (ps_set (i := 2) scSpread.nd rfl (Or.inl rfl) (pe_lst (pa_cons pe_int (pa_cons pe_int (pa_cons pe_int (pa_cons pe_int (pa_cons pe_int (pa_cons pe_int (pa_cons pe_int (pa_cons pe_int pa_nil))))))))))
      (pss_cons (ps_set (i := 2) scSpread.nd rfl (Or.inl rfl) (pe_op op_cat (pv 2) (pe_lst (pa_cons pe_int (pa_cons pe_int (pa_cons pe_int (pa_cons pe_int (pa_cons pe_int pa_nil))))))))
      (pss_cons (ps_set (i := 3) scSpread.nd rfl (Or.inl rfl) (pe_op op_mod (pe_op op_pow (pe_op op_add (pe_op op_add (pe_op op_mul (pe_op op_mod (pv 0) pe_int) (pe_op op_add (pe_op op_mul pe_int (pv 1)) pe_int)) (pe_op op_mul (pv 1) pe_int)) pe_int) pe_int)
        (pe_ix ix_list (pv 2) (pe_op op_mod (pv 1) pe_int) (fun _ _ => rfl))))
      (pss_cons (ps_set (i := 4) scSpread.nd rfl (Or.inl rfl) (pe_op op_mod (pe_op op_pow (pe_op op_add (pe_op op_add (pe_op op_mul (pv 3) (pe_op op_add (pv 1) pe_int)) (pe_op op_mod (pv 0) pe_int)) pe_int) pe_int)
        (pe_ix ix_list (pv 2) (pe_op op_mod (pe_op op_add (pv 1) pe_int) pe_int) (fun _ _ => rfl))))
      (pss_cons (ps_set (i := 5) scSpread.nd rfl (Or.inl rfl) (pe_op op_mod (pe_op op_pow (pe_op op_add (pe_op op_add (pv 4) (pe_op op_mod (pv 3) pe_int)) (pv 1)) pe_int)
        (pe_ix ix_list (pv 2) (pe_op op_mod (pe_op op_add (pv 1) pe_int) pe_int) (fun _ _ => rfl))))
      (pss_one (ps_ret (pe_op op_add (pe_op op_mul (pe_op op_add (pe_op op_mul (pv 3) pe_int) (pv 4)) pe_int) (pv 5))))))))), ?_⟩
    refine ⟨_, rfl, _, _, rfl, rfl, ⟨by decide, by decide, by decide⟩, _, _, rfl, rfl, _, rfl, ite2 (fun _ => ⟨_, rfl, k _ _ (Same.refl H)⟩) (fun _ => ?_)⟩
    -- primes
    refine ⟨by decide, fun l1 n1 => ?_⟩
    refine ⟨_, rfl, by decide, fun l2 n2 => ?_⟩
    have l21 : l1 ≠ l2 := ne_of_none upd_same n2
    refine ⟨l1, l2, _, _, rfl, rfl, (by rw [upd_ne l21]; exact upd_same), upd_same, by decide, fun l3 n3 => ?_⟩
    -- one
    have c0 := Int.emod_nonneg c (show (1000000007 : Int) ≠ 0 by decide)
    have c1 := Int.emod_lt_of_pos c (show (0 : Int) < 1000000007 by decide)
    have b0 : 0 ≤ c % 1000000007 * (2 * a + 69069) := Int.mul_nonneg c0 (by omega)
    have b1 : c % 1000000007 * (2 * a + 69069) ≤ 1000000007 * (2 * 1073741824 + 69069) := Int.mul_le_mul (by omega) (by omega) (by omega) (by decide)
    obtain ⟨q1, a1, q10, q11⟩ := prime_at (mod_at (x := a)).1 mod_at.2
    refine ⟨_, rfl, _, _, rfl, rfl, (by show (0 : Int) < 1000000007; decide), _, rfl, _, _, rfl, rfl, .inl ⟨by decide, by decide⟩, _, _, rfl, rfl, _, _, rfl, rfl, .inl ⟨by omega, by omega⟩, _, rfl, _, _, rfl, rfl, .inl ⟨by omega, by omega⟩, _, _, rfl, rfl, _, _, rfl, rfl,
      _, _, rfl, rfl, pow_ok (.inl rfl) (by omega) (by omega), _, rfl, _, rfl, _, _, rfl, rfl, (by show (0 : Int) < 13; decide), l3, primesV, _, _, rfl, rfl, SqL.of upd_same, a1, _, _, rfl, rfl, q10, ?_⟩
    dsimp only
    generalize hz : (c % 1000000007 * (2 * a + 69069) + a * 40503 + 977) ^ (3 : Int).toNat % q1 = one
    have o1 := hz ▸ mod_lt (x := (c % 1000000007 * (2 * a + 69069) + a * 40503 + 977) ^ (3 : Int).toNat) q10 q11
    -- two
    obtain ⟨q2, a2, q20, q21⟩ := prime_at (mod_at (x := a + 5)).1 mod_at.2
    have d0 := Int.emod_nonneg c (show (65537 : Int) ≠ 0 by decide)
    have d1 := Int.emod_lt_of_pos c (show (0 : Int) < 65537 by decide)
    have e0 : 0 ≤ one * (a + 3) := Int.mul_nonneg o1.1 (by omega)
    have e1 : one * (a + 3) ≤ 2147483648 * (1073741824 + 3) := Int.mul_le_mul (by omega) (by omega) (by omega) (by decide)
    refine ⟨_, rfl, _, rfl, _, _, rfl, rfl, _, _, rfl, rfl, .inl ⟨by omega, by omega⟩, _, rfl, _, _, rfl, rfl, (by show (0 : Int) < 65537; decide), _, _, rfl, rfl, _, _, rfl, rfl,
      _, _, rfl, rfl, pow_ok (.inr rfl) (by omega) (by omega), _, rfl, _, rfl, _, _, rfl, rfl, _, _, rfl, rfl, (by show (0 : Int) < 13; decide), l3, primesV, _, _, rfl, rfl, SqL.of upd_same, a2, _, _, rfl, rfl, q20, ?_⟩
    dsimp only
    generalize hy : (one * (a + 3) + c % 65537 + 5) ^ (5 : Int).toNat % q2 = two
    have o2 := hy ▸ mod_lt (x := (one * (a + 3) + c % 65537 + 5) ^ (5 : Int).toNat) q20 q21
    -- three
    obtain ⟨q3, a3, q30, q31⟩ := prime_at (mod_at (x := a + 7)).1 mod_at.2
    have g0 := Int.emod_nonneg one (show (1009 : Int) ≠ 0 by decide)
    have g1 := Int.emod_lt_of_pos one (show (0 : Int) < 1009 by decide)
    refine ⟨_, rfl, _, rfl, _, _, rfl, rfl, (by show (0 : Int) < 1009; decide), _, _, rfl, rfl, _, rfl, _, _, rfl, rfl,
      _, _, rfl, rfl, pow_ok (.inl rfl) (by omega) (by omega), _, rfl, _, rfl, _, _, rfl, rfl, _, _, rfl, rfl, (by show (0 : Int) < 13; decide), l3, primesV, _, _, rfl, rfl, SqL.of upd_same, a3, _, _, rfl, rfl, q30, ?_⟩
    refine ⟨_, rfl, _, _, rfl, rfl, .inl ⟨by omega, by omega⟩, _, rfl, _, _, rfl, rfl, _, _, rfl, rfl, .inl ⟨by omega, by omega⟩, _, rfl, _, _, rfl, rfl, ?_⟩
    exact k _ _ (((Same.upd n1).trans (Same.upd n2)).trans (Same.upd n3))

theorem scTake : FnScope ["pen", "many", "at", "cell", "found"] ["pen", "many"] (defScope sTake) := ⟨rfl, rfl, rfl, by decide +kernel, rfl, by decide +kernel, by decide +kernel⟩
theorem nat_at {xs : List Int} {i : Int} (h0 : 0 ≤ i) (h1 : i < xs.length) : ∃ v : Int, atI (xs.map V.int) i = some (.int v) := by
  obtain ⟨j, rfl⟩ : ∃ j : Nat, i = (j : Int) := ⟨i.toNat, by omega⟩
  have hj : j < xs.length := by omega
  exact ⟨xs[j], atI_nat (by rw [List.getElem?_map, List.getElem?_eq_getElem hj]; rfl)⟩
theorem mapInt_len (xs : List Int) : ((xs.map V.int).length : Int) = (xs.length : Int) := by rw [List.length_map]
theorem ok_takeC {f fS : Addr} {fd fdS : FuncData} (F : Fun K "_law_take" "_law_take" sTake f fd) (ml : mg "len" = none) (FS : Fun K "_law_spread" "_law_spread" sSpread fS fdS) (bS : Binds K fdS ["cell", "at"] []) (gS : mg "_law_spread" = some (.ref fS)) :
    FnOk P w K mg base CX0 2 f fd ["pen", "many"] spTakeC := by
  have GS : FnOk P w K mg base CX0 1 fS fdS ["cell", "at"] spSpread := ok_spread FS
  refine F.ok scTake (fun vs H Q E h => ?_) (fun cdv A outer s H vs Q E hr h => ?_)
  · obtain ⟨p, c, n, t, rfl, _⟩ := h
    rfl
  · obtain ⟨p, c, n, t, rfl, n0, nb, PA, tb, k⟩ := h
    obtain ⟨cells, a1, r1, hp, hc, a10, a11⟩ := PA.ex
    have ncp : c ≠ p := pen_ne hp hc
    refine ⟨_, C8.pss_cut (ps_if (pt_cmpR op_lt (pe_ix ix_list (pv 0) pe_int (fun _ _ => rfl)) (pv 1) (nomark _))
        (pss_cons (ps_set (i := 2) scTake.nd rfl (Or.inl rfl) (pe_ix ix_list (pv 0) pe_int (fun _ _ => rfl)))
        (pss_cons (ps_set (i := 3) scTake.nd rfl (Or.inl rfl) pe_int)
        (C8.pss_cut (ps_if (pt_cmpR op_lt (pv 2) (pe_callB call_len_seq (by rfl) ml PySem.boot_len (pa_cons (pe_ix ix_list (pv 0) pe_int (fun _ _ => rfl)) pa_nil)) (nomark _))
            (pss_one (ps_set (i := 3) scTake.nd rfl (Or.inl rfl) (pe_ix ix_list (pe_ix ix_list (pv 0) pe_int (fun _ _ => rfl)) (pv 2) (fun _ _ => rfl))))
            (pss_one (ps_if (pt_cmpR op_gt (pe_callB call_len_seq (by rfl) ml PySem.boot_len (pa_cons (pe_ix ix_list (pv 0) pe_int (fun _ _ => rfl)) pa_nil)) pe_int (nomark _))
              (pss_one (ps_set (i := 3) scTake.nd rfl (Or.inl rfl) (pe_op op_mod
                (pe_ix ix_list (pe_ix ix_list (pv 0) pe_int (fun _ _ => rfl)) (pe_op op_mod (pe_op op_add (pe_op op_mul (pv 2) pe_int) pe_int) (pe_callB call_len_seq (by rfl) ml PySem.boot_len (pa_cons (pe_ix ix_list (pv 0) pe_int (fun _ _ => rfl)) pa_nil))) (fun _ _ => rfl))
                (pe_op op_add (pe_op op_pow pe_int pe_int) (pv 2))))) pss_nil)))
        (pss_cons (ps_asg (pe_op op_add (pv 2) pe_int) (pg_sub (pv 0) pe_int set_list))
        (pss_one (ps_asg (pe_call GS hr (by rfl) gS FS.kp bS .nil pass0 (pa_cons (pv 3) (pa_cons (pv 2) pa_nil))) (pg_sub (pv 0) pe_int set_list)))))))
        pss_nil)
      (pss_cons (ps_set (i := 4) scTake.nd rfl (Or.inl rfl) (pe_op op_mod (pe_ix ix_list (pv 0) pe_int (fun _ _ => rfl)) (pv 1)))
      (pss_cons (ps_asg (pe_op op_fdivW (pe_ix ix_list (pv 0) pe_int (fun _ _ => rfl)) (pv 1)) (pg_sub (pv 0) pe_int set_list))
      (pss_one (ps_ret (pv 4))))), ?_⟩
    -- what holds behind the if
    refine ⟨fun σ H2 => ∃ (x2 x3 : Option V) (a2 r2 : Int), σ = [some (.ref p), some (.int n), x2, x3, none] ∧ H2 p = some (.lst [.ref c, .int a2, .int r2]) ∧ H2 c = some (.lst (cells.map V.int)) ∧ 0 ≤ a2 ∧ a2 ≤ (t : Int) + 1 ∧ But p H H2, ?_, ?_⟩
    · refine ⟨_, rfl, p, _, 2, .int r1, rfl, rfl, SqL.of hp, atI_nat (j := 2) rfl, _, rfl, _, _, rfl, rfl, _, rfl, ite2 (fun _ => ?_) (fun _ => ?_)⟩
      · refine ⟨_, rfl, p, _, 1, .int a1, rfl, rfl, SqL.of hp, atI_nat (j := 1) rfl, ?_⟩
        -- at, cell
        refine ⟨fun σ H2 => ∃ z : Int, σ = [some (.ref p), some (.int n), some (.int a1), some (.int z), none] ∧ H2 = H, ?_, ?_⟩
        · refine ⟨_, rfl, _, rfl, p, _, 0, .ref c, rfl, rfl, SqL.of hp, atI_nat (j := 0) rfl, c, _, rfl, .inl (SqL.of hc), _, _, rfl, rfl, _, rfl, ite2 (fun e => ?_) (fun e => ?_)⟩
          · have e1 : a1 < ((cells.map V.int).length : Int) := of_decide_eq_true e
            rw [mapInt_len] at e1
            obtain ⟨v, hv⟩ := nat_at a10 e1
            exact ⟨_, rfl, p, _, 0, .ref c, rfl, rfl, SqL.of hp, atI_nat (j := 0) rfl, _, rfl, c, _, a1, .int v, rfl, rfl, SqL.of hc, hv, v, rfl, rfl⟩
          · refine ⟨_, rfl, p, _, 0, .ref c, rfl, rfl, SqL.of hp, atI_nat (j := 0) rfl, c, _, rfl, .inl (SqL.of hc), _, _, rfl, rfl, _, rfl, ite2 (fun e2 => ?_) (fun e2 => ?_)⟩
            · have e3 : 0 < ((cells.map V.int).length : Int) := of_decide_eq_true e2
              have e4 := e3
              rw [mapInt_len] at e4
              obtain ⟨v, hv⟩ := nat_at (Int.emod_nonneg (a1 * 5 + 3) (by omega : (cells.length : Int) ≠ 0)) (Int.emod_lt_of_pos (a1 * 5 + 3) e4)
              rw [← mapInt_len] at hv
              have h17 : (0 : Int) < 10 ^ (17 : Int).toNat + a1 := by
                have : (0 : Int) < 10 ^ (17 : Int).toNat := by decide
                omega
              exact ⟨_, rfl, p, _, 0, .ref c, rfl, rfl, SqL.of hp, atI_nat (j := 0) rfl, _, rfl, _, _, rfl, rfl, .inl ⟨by omega, by omega⟩, _, _, rfl, rfl, _, rfl, p, _, 0, .ref c, rfl, rfl, SqL.of hp, atI_nat (j := 0) rfl, c, _, rfl, .inl (SqL.of hc), _, _, rfl, rfl, e3,
                c, _, _, .int v, rfl, rfl, SqL.of hc, hv, _, _, rfl, rfl, ⟨by decide, by decide, by decide⟩, _, rfl, _, _, rfl, rfl, _, _, rfl, rfl, h17, _, rfl, rfl⟩
            · exact ⟨0, rfl, rfl⟩
        · rintro σ H2 ⟨z, rfl, rfl⟩
          refine ⟨_, rfl, _, _, rfl, rfl, _, rfl, p, _, _, 1, rfl, rfl, hp, rfl, ?_⟩
          refine ⟨_, rfl, _, rfl, z, a1, rfl, a10, by omega, fun r H3 e3 => ?_⟩
          have hp3 : H3 p = some (.lst [.ref c, .int (a1 + 1), .int r1]) := e3 _ _ upd_same
          refine ⟨_, rfl, p, _, _, 2, rfl, rfl, hp3, rfl, ?_⟩
          refine ⟨_, _, a1 + 1, r, rfl, upd_same, ?_, by omega, by omega, (But.upd.trans (But.of e3)).trans But.upd⟩
          rw [upd_ne ncp]
          exact e3 _ _ (by rw [upd_ne ncp]; exact hc)
      · exact ⟨none, none, a1, r1, rfl, hp, hc, a10, by omega, fun b o _ e => e⟩
    · rintro σ H2 ⟨x2, x3, a2, r2, rfl, hp2, hc2, a20, a21, bt⟩
      refine ⟨_, rfl, p, _, 2, .int r2, rfl, rfl, SqL.of hp2, atI_nat (j := 2) rfl, _, rfl, _, _, rfl, rfl, n0, ?_⟩
      refine ⟨_, rfl, p, _, 2, .int r2, rfl, rfl, SqL.of hp2, atI_nat (j := 2) rfl, _, rfl, _, _, rfl, rfl, wide_div n0 nb (by decide) (by decide), ?_⟩
      refine ⟨_, rfl, p, _, _, 2, rfl, rfl, hp2, rfl, ?_⟩
      exact ⟨_, rfl, k _ _ (Int.emod_nonneg _ (by omega)) (Int.emod_lt_of_pos _ n0) (bt.trans But.upd) ⟨cells, a2, r2 / n, upd_same, by rw [upd_ne ncp]; exact hc2, a20, by omega⟩⟩

theorem ok_take {f fS : Addr} {fd fdS : FuncData} (F : Fun K "_law_take" "_law_take" sTake f fd) (ml : mg "len" = none) (FS : Fun K "_law_spread" "_law_spread" sSpread fS fdS) (bS : Binds K fdS ["cell", "at"] []) (gS : mg "_law_spread" = some (.ref fS)) :
    FnOk P w K mg base CX0 2 f fd ["pen", "many"] spTake := (ok_takeC F ml FS bS gS).imp fun vs H Q E h => by
  obtain ⟨p, n, t, h1, h2, h3, PA, h4, k⟩ := h
  obtain ⟨c, PC⟩ := PA.c
  exact ⟨p, c, n, t, h1, h2, h3, PC, h4, fun m H' a b d e => k m H' a b d e.any⟩
theorem scOpen : FnScope ["script", "cells", "k", "cell"] ["script"] (defScope sOpen) := ⟨rfl, rfl, rfl, by decide +kernel, rfl, by decide +kernel, by decide +kernel⟩
theorem cut_ints (ns : List Int) (lo hi : Option Int) : ∃ ms : List Int, cutV (ns.map V.int) lo hi = ms.map V.int ∧ ms = (ns.drop (HT.sIx ns.length 0 lo)).take (HT.sIx ns.length ns.length hi - HT.sIx ns.length 0 lo) := by
  refine ⟨_, ?_, rfl⟩
  unfold cutV
  rw [List.length_map, List.map_take, List.map_drop]
theorem sIx_nat (n : Nat) (d : Nat) (k : Nat) : HT.sIx n d (some (k : Int)) = min k n := by
  unfold HT.sIx
  simp only
  rw [if_neg (by omega)]
  omega
theorem cut12 (ns : List Int) : ∃ ms : List Int, cutV (ns.map V.int) none (some 12) = ms.map V.int ∧ ms.length = min 12 ns.length := by
  obtain ⟨ms, h1, h2⟩ := cut_ints ns none (some 12)
  refine ⟨ms, h1, ?_⟩
  rw [h2, List.length_take, List.length_drop]
  have a1 : HT.sIx ns.length 0 none = 0 := rfl
  have a2 : HT.sIx ns.length ns.length (some 12) = min 12 ns.length := sIx_nat _ _ 12
  rw [a1, a2]; omega
theorem cut63 (ns : List Int) : ∃ ms : List Int, cutV (ns.map V.int) (some 12) (some 63) = ms.map V.int ∧ ms.length ≤ ns.length - 12 := by
  obtain ⟨ms, h1, h2⟩ := cut_ints ns (some 12) (some 63)
  refine ⟨ms, h1, ?_⟩
  rw [h2, List.length_take, List.length_drop]
  have a1 : HT.sIx ns.length 0 (some 12) = min 12 ns.length := sIx_nat _ _ 12
  have a2 : HT.sIx ns.length ns.length (some 63) = min 63 ns.length := sIx_nat _ _ 63
  rw [a1, a2]; omega
theorem set_ints (ns : List Int) (j : Nat) (v : Int) : (ns.map V.int).set j (.int v) = (ns.set j v).map V.int := by rw [List.map_set]
theorem ok_open {f : Addr} {fd : FuncData} (F : Fun K "_law_open" "_law_open" sOpen f fd) (m1 : mg "list" = none) (m2 : mg "enumerate" = none) : FnOk P w K mg base CX0 1 f fd ["script"] (spOpen K) := by
  refine F.ok scOpen (fun vs H Q E h => ?_) (fun cdv A outer s H vs Q E hr h => ?_)
  · obtain ⟨a, ns, rfl, _⟩ := h
    rfl
  · obtain ⟨a, ns, rfl, hS, hl, k⟩ := h
    refine ⟨_, pss_cons (ps_set (i := 1) scOpen.nd rfl (Or.inl rfl) (pe_callTy call_list_of (by rfl) m1 boot_list (pa_cons (pe_slice sl_list (pv 0) po_none (po_some pe_int)) pa_nil)))
      (pss_cons (ps_for PassesOwn.never rfl (pi_enum (by rfl) m2 (pa_cons (pe_slice sl_list (pv 0) (po_some pe_int) (po_some pe_int)) pa_nil))
        (pg_tup (by rfl) (pgs_cons (pg_name (i := 2) scOpen.nd rfl (Or.inl rfl)) (pgs_cons (pg_name (i := 3) scOpen.nd rfl (Or.inl rfl)) pgs_nil)))
        (pss_one (ps_asg (pe_op op_add (pe_ix ix_list (pv 1) (pe_op op_mod (pv 2) pe_int) (fun _ _ => rfl)) (pv 3)) (pg_sub (pv 1) (pe_op op_mod (pv 2) pe_int) set_list))))
      (pss_one (ps_ret (pe_lst (pa_cons (pv 1) (pa_cons pe_int (pa_cons pe_int pa_nil))))))), ?_⟩
    obtain ⟨ms, e1, l1⟩ := cut12 ns
    obtain ⟨us, e2, l2⟩ := cut63 ns
    refine ⟨_, rfl, 12, rfl, a, _, rfl, hS, fun p1 n1 => ?_⟩
    rw [e1]
    refine ⟨p1, _, rfl, .inl (SqL.of upd_same), fun c nc => ?_⟩
    have s1 : Same H (upd (upd H p1 (.lst (ms.map V.int))) c (.lst (ms.map V.int))) := (Same.upd n1).trans (Same.upd nc)
    refine ⟨_, rfl, 12, rfl, 63, rfl, a, _, rfl, s1.seq hS, fun p2 n2 => ?_⟩
    rw [e2]
    have nc2 : c ≠ p2 := ne_of_none upd_same n2
    refine ⟨p2, us.map V.int, rfl, SqL.of upd_same, for_it (walk_enum (K := K) (a := p2) (xs := us.map V.int)) (fun i σ H2 => ∃ (x2 x3 : Option V) (cs : List Int), σ = [some (.ref a), some (.ref c), x2, x3] ∧ H2 c = some (.lst (cs.map V.int)) ∧ cs.length = ms.length ∧
        (∀ b o, b ≠ c → upd (upd (upd H p1 (.lst (ms.map V.int))) c (.lst (ms.map V.int))) p2 (.lst (us.map V.int)) b = some o → H2 b = some o)) ?_ ?_ ?_ ?_⟩
    · exact ⟨none, none, ms, rfl, by rw [upd_ne nc2]; exact upd_same, rfl, fun _ _ _ e => e⟩
    · rintro i σ H2 hi ⟨x2, x3, cs, rfl, hc, hl, hk⟩
      exact SqL.of (hk _ _ nc2.symm upd_same)
    · rintro i x σ H2 H3 hi ⟨x2, x3, cs, rfl, hc, hlc, hk⟩ ⟨T, y, z, rfl, hT, rfl, ey, ez⟩
      obtain rfl : V.int ((i : Nat) : Int) = y := Option.some.inj ey
      have hi' : i < us.length := by rw [List.length_map] at hi; exact hi
      obtain ⟨v, rfl⟩ : ∃ v, z = V.int v := by
        have ez' : (us.map V.int)[i]? = some z := ez
        rw [List.getElem?_map, List.getElem?_eq_getElem hi'] at ez'
        exact ⟨us[i], (Option.some.inj ez').symm⟩
      have m12 : ms.length = 12 := by omega
      have hcT : c ≠ T := ne_of_none hc hT
      have b0 := Int.emod_nonneg ((i : Nat) : Int) (show (12 : Int) ≠ 0 by decide)
      have b1 := Int.emod_lt_of_pos ((i : Nat) : Int) (show (0 : Int) < 12 by decide)
      obtain ⟨u, hu⟩ := nat_at (xs := cs) b0 (by omega)
      refine ⟨T, _, rfl, SqT.of upd_same, rfl, _, _, rfl, _, _, rfl, rfl, ?_⟩
      refine ⟨_, rfl, _, rfl, _, _, rfl, rfl, (by show (0 : Int) < 12; decide), c, _, _, _, rfl, rfl, SqL.of (by rw [upd_ne hcT]; exact hc), hu, _, rfl, _, _, rfl, rfl, ?_⟩
      have hj : ixN (cs.map V.int).length (((i : Nat) : Int) % 12) = some (((i : Nat) : Int) % 12).toNat := by
        unfold ixN
        rw [List.length_map, if_pos b0, if_pos (by omega)]
      refine ⟨_, rfl, _, rfl, _, _, rfl, rfl, (by show (0 : Int) < 12; decide), c, _, _, _, rfl, rfl, (by rw [upd_ne hcT]; exact hc), hj, ?_⟩
      refine ⟨_, _, cs.set (((i : Nat) : Int) % 12).toNat (u + v), rfl, by rw [upd_same, set_ints], by rw [List.length_set]; exact hlc, fun b o hb e => ?_⟩
      rw [upd_ne hb, upd_ne (ne_of_none (hk b o hb e) hT)]
      exact hk b o hb e
    · rintro σ H2 ⟨x2, x3, cs, rfl, hc, hlc, hk⟩
      refine ⟨_, rfl, (by show 3 ≤ sizeLine; decide), fun p np => ?_⟩
      have sH : Same H H2 := fun b o e => hk b o (ne_of_none (Same.upd n1 b o e) nc) ((s1.trans (Same.upd n2)) b o e)
      have ncp : c ≠ p := ne_of_none hc np
      exact k p _ (sH.free np) (sH.trans (Same.upd np)) ⟨c, cs, 0, 0, upd_same, by rw [upd_ne ncp]; exact hc, by decide, by decide⟩
end
end My

namespace My
open PySem PySem.Spec PyProof.Rows L2
/-! ### t[::-1] -/
section
variable {prog : Program} {w : World} {A : Around} {E : Value → Shared → Prop} {s : Shared}
theorem backwards (xs : Array Value) : ((List.range xs.size).filterMap fun (m : Nat) => xs[((xs.size : Int) - 1 + (m : Int) * -1).toNat]?).toArray = xs.toList.reverse.toArray := by
  have e1 : (List.range xs.size).filterMap (fun (m : Nat) => xs[((xs.size : Int) - 1 + (m : Int) * -1).toNat]?) = ((List.range xs.size).map fun k => xs.size - 1 - k).filterMap (xs[·]?) := by
    rw [List.filterMap_map]
    congr 1
    funext m
    show _ = xs[xs.size - 1 - m]?
    have : ((xs.size : Int) - 1 + (m : Int) * -1).toNat = xs.size - 1 - m := by omega
    rw [this]
  rw [e1, PySem.W.krv_range, List.filterMap_reverse, PySem.W.krv_all]
theorem getItem_back {t sl : Addr} {items : Array Value} {tk : Tok} {Q : Value → Shared → Prop} (ht : IsTup s.heap t items) (hs : s.heap.IsSliceOf sl .none .none (.int (-1) tk)) (hsz : items.size ≤ sizeLine)
    (q : Q (.ref s.heap.objs.size) { s with heap := s.heap.push { cls := .type "tuple", data := .seq items.toList.reverse.toArray } }) : wpAny (model prog w) A (getItem (.ref t) (.ref sl)) Q E s := by
  have hfit : sizeOk (.seq items.toList.reverse.toArray) := by show items.toList.reverse.toArray.size ≤ sizeLine; simpa using hsz
  obtain ⟨ob, hob, hcl, hdat⟩ := id hs
  have hT : s.TypeIs (.ref sl) "slice" := ⟨ob, hob, hcl⟩
  unfold getItem; try with_reducible refine wpAny_holding ?_
  first | refine wpAny_bind (wpAny_pure ?_) | skip
  refine wpAny_bind (wpAny_sequenceKey ht.typeIs (by decide) ?_); refine wpAny_bind (wpAny_callSpecial?_slot (name := Str.ofString "__getitem__") ht.typeIs slot_tuple_getitem (wpAny_call_entry slot_tuple_getitem ht.typeIs entry_tuple_getitem ?_ (args_tuple_getitem _ _)))
  show wpAny _ _ (Builtin.Tuple.tupleItemsOf (.ref t) >>= _) _ _ s; refine wpAny_bind (tupleItemsOf_ ht ?_); refine wpAny_bind (wpAny_typeOf hT ?_); rw [if_pos (by decide)]
  have step : ∀ {R : Int × Int × Nat → Shared → Prop}, R ((items.size : Int) - 1, -1, items.size) s → wpAny (model prog w) A.in1 (Builtin.Slice.sliceApplied (.ref sl) (pure (items.size : Int))) R E s := by
    intro R hR; unfold Builtin.Slice.sliceApplied Builtin.Slice.sliceFields
    refine wpAny_bind (wpAny_bind (wpAny_field hob hdat (x := .none) rfl (wpAny_bind (wpAny_field hob hdat (x := .none) rfl (wpAny_bind (wpAny_field hob hdat (x := .int (-1) tk) rfl (wpAny_pure ?_)))))))
    refine wpAny_bind (slicePart_int ?_); show wpAny _ _ (if ((-1 : Int) == 0) = true then _ else _) _ _ s; rw [if_neg (by decide)]
    refine wpAny_bind (PyProof.Rows.slicePart_none (wpAny_bind (PyProof.Rows.slicePart_none (wpAny_bind (wpAny_pure ?_)))))
    show wpAny _ _ (match Builtin.Slice.sliceAdjust none none (-1) (items.size : Int) with | (lo, hi) => pure (lo, (-1 : Int), Builtin.Slice.slicePlaces lo hi (-1))) _ _ s
    have e1 : Builtin.Slice.sliceAdjust none none (-1) (items.size : Int) = ((items.size : Int) - 1, -1) := rfl
    rw [e1]; show wpAny _ _ (pure ((items.size : Int) - 1, (-1 : Int), Builtin.Slice.slicePlaces ((items.size : Int) - 1) (-1) (-1))) _ _ s
    have e2 : Builtin.Slice.slicePlaces ((items.size : Int) - 1) (-1) (-1) = items.size := by
      unfold Builtin.Slice.slicePlaces
      have h1 : ¬ ((-1 : Int) > 0) := by decide
      simp only [h1, if_false]
      by_cases h : (items.size : Int) - 1 > -1
      · rw [if_pos h, show (- -1 : Int) = 1 by decide, Int.ediv_one]; omega
      · rw [if_neg h]; omega
    rw [e2]; exact wpAny_pure hR
  refine wpAny_bind (step ?_)
  show wpAny _ _ (if (((items.size : Int) - 1) == 0 && (-1 : Int) == 1 && items.size == items.size) = true then _ else _) _ _ s
  rw [if_neg (by rw [show ((-1 : Int) == 1) = false by decide, Bool.and_false, Bool.false_and]; decide), backwards]
  first
    | exact wpAny_bind (m := Builtin.Tuple.tupleExact _) (wpAny_newObj_type (wpAny_pure ⟨_, rfl, wpAny_pure q⟩) hfit)
    | exact wpAny_bind (m := Builtin.Tuple.tupleExact _) (wpAny_newObj_type (wpAny_bind (wpAny_pure (wpAny_pure ⟨_, rfl, wpAny_pure q⟩))) hfit)
    | exact wpAny_bind (wpAny_bind (m := Builtin.Tuple.tupleExact _) (wpAny_newObj_type (wpAny_pure (wpAny_pure ⟨_, rfl, wpAny_pure q⟩)) hfit))
    | exact wpAny_bind (wpAny_bind (m := Builtin.Tuple.tupleExact _) (wpAny_newObj_type (wpAny_pure ⟨_, rfl, wpAny_pure q⟩) hfit))
end
section
variable {X : Cx}
def tRevT (K : PySem.W.Frag) (te : TE) : TE := fun σ H Q => te σ H fun x H1 => ∃ a xs, x = .ref a ∧ SqT K H1 a xs ∧ ∀ p, H1 p = none → Q (.ref p) (upd H1 p (.tup xs.reverse))
theorem pe_revT {e : Expr} {te : TE} {k : Nat} {p1 p2 p3 pos : Pos} (he : PE X e te) : PE X (.Subscript e (.Slice none none (some (.UnaryOp .USub (.Constant (.int 1) k p1) p2)) p3) pos) (tRevT X.K te) := by
  refine ⟨fun pins s σ H Q I h => ?_⟩
  refine Subscript_ (thn (he.run pins s σ H _ I h) fun v s1 ⟨x, H1, I1, r1, q1⟩ => ?_)
  obtain ⟨a, xs, ex, hx, q⟩ := q1
  subst ex; cases r1
  have hst : PO X (some (.UnaryOp .USub (.Constant (.int 1) k p1) p2)) (tPart (tUn (rU fun i => .int (-i)) (tC (.int 1)))) := po_some (pe_un un_neg pe_int)
  refine wpAny_Slice (thn (po_none.run pins s1 σ H1 (fun o H2 => o = none ∧ H2 = H1) I1 ⟨rfl, rfl⟩) fun vl s2 ⟨l, H2, I2, pl, el, e2⟩ => ?_)
  subst el e2
  refine thn (po_none.run pins s2 σ H2 (fun o H3 => o = none ∧ H3 = H2) I2 ⟨rfl, rfl⟩) fun vu s3 ⟨u, H3, I3, pu, eu, e3⟩ => ?_
  subst eu e3
  refine thn (hst.run pins s3 σ H3 (fun o H4 => o = some (-1) ∧ H4 = H3) I3 ⟨1, rfl, -1, rfl, rfl, rfl⟩) fun vs s4 ⟨o, H4, I4, ps, eo, e4⟩ => ?_
  subst eo e4
  cases pl; cases pu; cases ps with
  | int i tk =>
  have J : Inv X pins σ H4 { s4 with heap := s4.heap.push { cls := .type "slice", data := .fields #[.none, .none, .int (-1) tk] } } := I4.kept (t' := s4.toks) fun b ob q => Heap.get?_push_of_some _ q
  obtain ⟨its, r, ht, hz⟩ := J.tuple hx
  have hl := r.length
  show wpAny (model X.prog X.w) X.A (subscriptTail e (.Slice none none (some (.UnaryOp .USub (.Constant (.int 1) k p1) p2)) p3) (.ref a) (.ref s4.heap.objs.size)) (EP X pins σ Q) X.xe { s4 with heap := s4.heap.push { cls := .type "slice", data := .fields #[.none, .none, .int (-1) tk] } }
  refine tail_any (ops := [.ref a, .ref s4.heap.objs.size]) ht.typeIs (slot_tuple_getitem.lookup) ?_ (by with_unfolding_all rfl)
  refine getItem_back ht (Heap.IsSliceOf.new _ .none .none (.int (-1) tk)) (by rw [List.size_toArray]; omega) ?_
  refine ⟨.ref _, _, J.laid (t' := s4.toks) (o := .tup xs.reverse) (fun b ob q => Heap.get?_push_of_some _ q) (Nat.le_refl _) ?_, rfl, q _ (J.hok.fresh (Nat.le_refl _))⟩
  exact ⟨by rw [List.length_reverse]; exact hz, _, r.reverse, IsTup.new _ _⟩
end
/-! ### repr -/
section
variable {X : Cx}
def rRepr (K : PySem.W.Frag) : List V → Hp → VK → Prop := fun xs H Q => ∃ (v : V) (d : PyData) (G : Hp), xs = [v] ∧ Same G H ∧ Dq K G v d ∧ d.showable = true ∧ (d.hasDict = true → hasList d = false) ∧ d.depth ≤ 100 ∧ d.shown.length ≤ sizeLine ∧ Q (.str d.shown) H
theorem cr_repr (hg : X.A.guards = some []) (hu : X.A.units + 111 < cLine) : CallR X (.builtin "repr") (rRepr X.K) := by
  intro pins s σ H xs us Q I r h
  obtain ⟨v, d, G, rfl, e, h, hs, hm, hd, hz, q⟩ := h
  have h' := h.mono e
  have key : ∀ a : Addr, us = [.ref a] → RelV v (.ref a) → wpAny (model X.prog X.w) X.A (call (.builtin "repr") us) (EP X pins σ Q) X.xe s := fun a ea ra => by
    subst ea
    obtain ⟨as, hr, hn⟩ := Dq.reads I d v _ h' ra
    exact repr_of_reads' hr hs (fun z => hn (hm z)) hg (by omega) (fun _ _ e => e) (fun h2 u tk hk => ⟨.str _, H, I.kept hk, ⟨_, rfl⟩, q⟩) hz
  cases r with
  | cons r0 rr =>
    cases rr
    cases h with
    | non => cases r0; exact PySem.P.repr_of_none ⟨.str _, H, I.tok _, ⟨_, rfl⟩, q⟩
    | bl b => cases r0; exact PySem.P.repr_of_bool ⟨.str _, H, I.tok _, ⟨_, rfl⟩, q⟩
    | int i =>
      obtain ⟨t, rfl⟩ := r0
      exact PySem.P.repr_of_int (by simpa [PyData.showable] using hs) ⟨.str _, H, I.tok _, ⟨_, rfl⟩, q⟩
    | str x =>
      obtain ⟨t, rfl⟩ := r0
      exact PySem.P.repr_of_str ⟨.str _, H, I.tok _, ⟨_, rfl⟩, q⟩ hz
    | lst _ _ => cases r0; exact key _ rfl rfl
    | tup _ _ => cases r0; exact key _ rfl rfl
    | dct _ _ _ => cases r0; exact key _ rfl rfl
end
/-! ### data made by an expression -/
structure Nw (G H G' H' : Hp) : Prop where
  gg : Same G G'
  gh : Same G' H'
  hh : Same H H'
  old : ∀ b, H b ≠ none → G' b = G b
theorem Nw.refl {G H : Hp} (e : Same G H) : Nw G H G H := ⟨Same.refl _, e, Same.refl _, fun _ _ => rfl⟩
theorem Nw.trans {G H G1 H1 G2 H2 : Hp} (a : Nw G H G1 H1) (b : Nw G1 H1 G2 H2) : Nw G H G2 H2 := by
  refine ⟨a.gg.trans b.gg, b.gh, a.hh.trans b.hh, fun c h => ?_⟩
  have h1 : H1 c ≠ none := by
    cases q : H c with
    | none => exact absurd q h
    | some o => rw [a.hh c o q]; exact fun z => nomatch z
  rw [b.old c h1, a.old c h]
theorem Nw.mk1 {G H : Hp} (e : Same G H) {p : Addr} (n : H p = none) (o : HO) : Nw G H (upd G p o) (upd H p o) := by
  refine ⟨Same.upd (e.free n), fun b u h => ?_, Same.upd n, fun b h => upd_ne (fun z => h (by rw [z]; exact n))⟩
  by_cases hb : b = p
  · subst hb; rw [upd_same] at h ⊢; exact h
  · rw [upd_ne hb] at h ⊢; exact e b u h
theorem PE.imp {X : Cx} {e : Expr} {t t' : TE} (h : PE X e t) (i : ∀ σ H Q, t' σ H Q → t σ H Q) : PE X e t' := ⟨fun pins s σ H Q I q => h.run pins s σ H Q I (i σ H Q q)⟩
theorem PA.imp {X : Cx} {es : List Expr} {t t' : TA} (h : PA X es t) (i : ∀ σ H Q, t' σ H Q → t σ H Q) : PA X es t' := ⟨fun pos pins s σ H Q I q => h.run pos pins s σ H Q I (i σ H Q q)⟩
def tDc (K : PySem.W.Frag) (d : PyData) : TE := fun _ H Q => ∃ G, Same G H ∧ ∀ v G' H', Nw G H G' H' → Dq K G' v d → Q v H'
def tDcs (K : PySem.W.Frag) (ds : List PyData) : TA := fun _ H Q => ∃ G, Same G H ∧ ∀ vs G' H', Nw G H G' H' → DqAll K G' vs ds → Q vs H'
section
variable {X : Cx} {pos : Pos}
theorem dc_int {i : Int} {j : Nat} : PE X (.Constant (.int i) j pos) (tDc X.K (.int i)) := PE.imp pe_int fun _ _ _ ⟨_, e, k⟩ => k _ _ _ (Nw.refl e) (.int i)
theorem dc_str {x : Str} {j : Nat} : PE X (.Constant (.str x) j pos) (tDc X.K (.str x)) := PE.imp pe_str fun _ _ _ ⟨_, e, k⟩ => k _ _ _ (Nw.refl e) (.str x)
theorem dc_bl {b : Bool} {j : Nat} : PE X (.Constant (.bool b) j pos) (tDc X.K (.bool b)) := PE.imp pe_bl fun _ _ _ ⟨_, e, k⟩ => k _ _ _ (Nw.refl e) (.bl b)
theorem dc_non {j : Nat} : PE X (.Constant .none j pos) (tDc X.K .none) := PE.imp pe_non fun _ _ _ ⟨_, e, k⟩ => k _ _ _ (Nw.refl e) .non
theorem dc_neg {i : Int} {j : Nat} {p : Pos} : PE X (.UnaryOp .USub (.Constant (.int i) j p) pos) (tDc X.K (.int (-i))) := PE.imp (pe_un un_neg pe_int) fun _ _ _ ⟨_, e, k⟩ => ⟨i, rfl, k _ _ _ (Nw.refl e) (.int _)⟩
theorem dc_pow {i j : Int} {a b : Nat} {p q : Pos} (h : CPow i j) : PE X (.BinOp (.Constant (.int i) a p) .Pow (.Constant (.int j) b q) pos) (tDc X.K (.int (i ^ j.toNat))) :=
  PE.imp (pe_op op_pow pe_int pe_int) fun _ _ _ ⟨_, e, k⟩ => ⟨i, j, rfl, rfl, h, k _ _ _ (Nw.refl e) (.int _)⟩
theorem das_nil : PA X [] (tDcs X.K []) := PA.imp pa_nil fun _ _ _ ⟨_, e, k⟩ => k _ _ _ (Nw.refl e) .nil
theorem das_cons {e : Expr} {es : List Expr} {d : PyData} {ds : List PyData} (h1 : PE X e (tDc X.K d)) (h2 : PA X es (tDcs X.K ds)) (hs : starEach (e :: es) X.env = (false, eval e X.env) :: starEach es X.env := by rfl) : PA X (e :: es) (tDcs X.K (d :: ds)) :=
  PA.imp (pa_cons h1 h2 hs) fun _ _ _ ⟨G, e, k⟩ => ⟨G, e, fun _ G1 _ n1 d1 => ⟨G1, n1.gh, fun _ _ _ n2 d2 => k _ _ _ (n1.trans n2) (.cons (d1.mono n2.gg) d2)⟩⟩
theorem dc_tup {es : List Expr} {ds : List PyData} {x1} (h : PA X es (tDcs X.K ds)) (hl : ds.length ≤ sizeLine) : PE X (.Tuple es x1 pos) (tDc X.K (.tuple ds)) :=
  PE.imp (pe_tup h) fun _ _ _ ⟨G, e, k⟩ => ⟨G, e, fun vs G1 H1 n1 d1 => ⟨by rw [d1.len]; exact hl, fun p np => k _ _ _ (n1.trans (Nw.mk1 n1.gh np (.tup vs))) (.tup upd_same (d1.mono (Nw.mk1 n1.gh np (.tup vs)).gg))⟩⟩
theorem dc_lst {es : List Expr} {ds : List PyData} (h : PA X es (tDcs X.K ds)) (hl : ds.length ≤ sizeLine) : PE X (.List es pos) (tDc X.K (.list ds)) :=
  PE.imp (pe_lst h) fun _ _ _ ⟨G, e, k⟩ => ⟨G, e, fun vs G1 H1 n1 d1 => ⟨by rw [d1.len]; exact hl, fun p np => k _ _ _ (n1.trans (Nw.mk1 n1.gh np (.lst vs))) (.lst upd_same (d1.mono (Nw.mk1 n1.gh np (.lst vs)).gg))⟩⟩
theorem dc_dict0 : PE X (.Dict [] [] pos) (tDc X.K (.dict [])) :=
  PE.imp pe_dnewK fun _ _ _ ⟨G, e, k⟩ => fun p np => k _ _ _ (Nw.mk1 e np (.dK [])) (.dct upd_same .nil .nil)
theorem dc_dict01 {a b c d : Nat} {p1 p2 p3 p4 : Pos} : PE X (.Dict [some (.Constant (.int 0) a p1), some (.Constant (.int 1) b p2)] [.Constant (.int 1) c p3, .Constant (.int 1) d p4] pos) (tDc X.K (.dict [(.int 0, .int 1), (.int 1, .int 1)])) := by
  refine PE.imp (pe_disp (pps_cons pe_int pe_int (pps_cons pe_int pe_int pps_nil)) rfl rfl (by simp) (by show 2 ≤ 15; decide)) fun _ H Q ⟨G, e, k⟩ => fun p np => ?_
  refine ⟨upd_same, [(.inl 0, .int 1), (.inl 1, .int 1)], rfl, by decide, ?_⟩
  rw [upd_upd]
  exact k _ _ _ (Nw.mk1 e np (.dK [(.inl 0, .int 1), (.inl 1, .int 1)])) (.dct upd_same (.cons (.int _) (.cons (.int _) .nil)) (.cons (.int _) (.cons (.int _) .nil)))
end
/-! ### types of data -/
def tyN : PyData → String
  | .none => "NoneType"
  | .bool _ => "bool"
  | .int _ => "int"
  | .str _ => "str"
  | .list _ => "list"
  | .tuple _ => "tuple"
  | .dict _ => "dict"
theorem Dq.ty {K : PySem.W.Frag} {G H : Hp} (e : Same G H) : ∀ {v : V} {d : PyData}, Dq K G v d → TyX K H v (.type (tyN d))
  | _, _, .non => .base .non
  | _, _, .bl b => .base (.bl b)
  | _, _, .int i => .base (.int i)
  | _, _, .str x => .base (.str x)
  | _, _, .lst h _ => .base (.lst (e _ _ h))
  | _, _, .tup h _ => .base (.tup (e _ _ h))
  | _, _, .dct h _ _ => .base (.dK (e _ _ h))
def isT (T : String) (d : PyData) : Bool := tyN d == T
theorem kit_int : ∀ d : PyData, kitB (tyN d) "int" = some (isT "int" d || isT "bool" d)
  | .none => by decide +kernel
  | .bool _ => (by decide +kernel : kitB "bool" "int" = some true)
  | .int _ => (by decide +kernel : kitB "int" "int" = some true)
  | .str _ => (by decide +kernel : kitB "str" "int" = some false)
  | .list _ => (by decide +kernel : kitB "list" "int" = some false)
  | .tuple _ => (by decide +kernel : kitB "tuple" "int" = some false)
  | .dict _ => (by decide +kernel : kitB "dict" "int" = some false)
theorem kit_bool : ∀ d : PyData, kitB (tyN d) "bool" = some (isT "bool" d)
  | .none => by decide +kernel
  | .bool _ => (by decide +kernel : kitB "bool" "bool" = some true)
  | .int _ => (by decide +kernel : kitB "int" "bool" = some false)
  | .str _ => (by decide +kernel : kitB "str" "bool" = some false)
  | .list _ => (by decide +kernel : kitB "list" "bool" = some false)
  | .tuple _ => (by decide +kernel : kitB "tuple" "bool" = some false)
  | .dict _ => (by decide +kernel : kitB "dict" "bool" = some false)
theorem kit_tuple : ∀ d : PyData, kitB (tyN d) "tuple" = some (isT "tuple" d)
  | .none => by decide +kernel
  | .bool _ => (by decide +kernel : kitB "bool" "tuple" = some false)
  | .int _ => (by decide +kernel : kitB "int" "tuple" = some false)
  | .str _ => (by decide +kernel : kitB "str" "tuple" = some false)
  | .list _ => (by decide +kernel : kitB "list" "tuple" = some false)
  | .tuple _ => (by decide +kernel : kitB "tuple" "tuple" = some true)
  | .dict _ => (by decide +kernel : kitB "dict" "tuple" = some false)
theorem isi_read {K : PySem.W.Frag} {G H : Hp} {v : V} {d : PyData} {T : String} {b : Bool} {Q : VK} (e : Same G H) (h : Dq K G v d) (hk : kitB (tyN d) T = some b) (q : Q (.bl b) H) : rIsi K [v, .ty T] H Q :=
  ⟨v, .ty T, .type (tyN d), .type T, b, rfl, .ty T, h.ty e, kit_ty hk, q⟩
theorem PenAt.some {H : Hp} {p : Addr} {t : Nat} (h : PenAt H p t) : H p ≠ none := by
  obtain ⟨c, cells, x, y, h1, _⟩ := h.ex
  rw [h1]; exact fun z => nomatch z
theorem pen_not {H : Hp} {p l : Addr} {t : Nat} (h : PenAt H p t) (n : H l = none) : l ≠ p := fun z => h.some (by rw [← z]; exact n)
theorem keep_ne {H H1 : Hp} (e : Same H H1) {c : Addr} (h : H c ≠ none) : H1 c ≠ none := by
  cases z : H c with
  | none => exact absurd z h
  | some o => rw [e c o z]; exact fun y => nomatch y
theorem lst_new {G H G1 H1 : Hp} (m : Nw G H G1 H1) {q : Addr} (n : H1 q = none) (o : HO) : Nw G H G1 (upd H1 q o) :=
  ⟨m.gg, m.gh.trans (Same.upd n), m.hh.trans (Same.upd n), m.old⟩
theorem same_but {G H H' : Hp} {p : Addr} (e : Same G H) (n : G p = none) (b : But p H H') : Same G H' := fun a o h => b a o (ne_of_none h n) (e a o h)
theorem ifF {c : Bool} {A B : Prop} (h : c = false) (q : B) : if c = true then A else B := by rw [h]; exact iteF q
theorem ifT {c : Bool} {A B : Prop} (h : c = true) (q : A) : if c = true then A else B := by rw [h]; exact iteT q
theorem some_ne {H : Hp} {b : Addr} {o : HO} (h : H b = some o) : H b ≠ none := by rw [h]; exact fun z => nomatch z
theorem same0 (H : Hp) : Same (fun _ => none) H := fun _ _ h => nomatch h
/-! ### the law's own call: what runs around it is known (no repr is under way) -/
def AtTop (P : Program) (w : World) (K : PySem.W.Frag) (mg : Str → Option Value) (base : Heap) (fa : Addr) (fd : FuncData) (ps : List Str) (sp : Sp) : Prop :=
  ∀ (out : List Env) (s : Shared) (H : Hp) (args : Args) (us : List Value) (vs : List V) (Q : VK) (E : XK), Env0 P w K mg base callerA out s H → BindsTo s fd args (ps.zip us) → Vals vs us → sp vs H Q E → codeAny (model P w) callerA (.call (.ref fa) args) (CR CX0 out P w H s Q E) s
theorem top_ok {P : Program} {w : World} {K : PySem.W.Frag} {mg : Str → Option Value} {base : Heap} {x qual : Str} {st : Stmt} {f : Addr} {fd : FuncData} {N ps : List Str} {k : Nat} {sp : Sp} (F : Fun K x qual st f fd) (S : FnScope N ps (defScope st)) (len : ∀ vs H Q E, sp vs H Q E → vs.length = ps.length) (hr : Room (k + 1) callerA)
    (hbody : ∀ (cdv : Value) (out : List Env) (s : Shared) (H : Hp) (vs : List V) (Q : VK) (E : XK), Room k (callerA.deeper (envOfC qual (defScope st) s.heap.objs.size f cdv)) → sp vs H Q E →
      ∃ t, PSs (cxOf CX0 P w K mg base N qual (defScope st) f cdv callerA out s H E).nox (defBody st) t ∧ t { nx := fun _ H' => Q .non H', rt := Q } (start N vs) H) : AtTop P w K mg base f fd ps sp := by
  obtain ⟨oc, od, kV, doc, pm, an, cdv, ct, osl, rfl, lk, hcd⟩ := F.ex
  intro out s H args us vs Q E e0 hb r hsp
  have hl := len _ _ _ _ hsp
  have KI : K.In s.heap := e0.mod.kin.keeps fun b o e => (e0.bs b o e).1
  have nl : s.heap.NoLimit := e0.mod.nolimit.keeps fun b o e => (e0.bs b o e).1
  have hk : ∀ y ∈ ps.zip us, (defScope st).names.lookup y.1 = some .local ∨ ((defScope st).names.lookup y.1 = some .cell ∧ ((cellsFrom (s.heap.objs.size + 1) (defScope st).names []).lookup y.1).isSome = true) := fun ⟨n, v⟩ hy => by
    rcases S.par n (List.of_mem_zip hy).1 with q | q
    · exact .inl q
    · exact .inr ⟨q, PySem.W.cellsFrom_some _ _ _ (.inl q)⟩
  refine codeAny_call_function hr.depth (KI _ _ lk) rfl S.co S.gen rfl (PySem.W.codeRec_of KI hcd) (hb _ _ _ _ ?_)
  refine wpAny_newFunctionEnv_cells S.kind hk fun env he s1 x => ?_
  subst he; refine ⟨nl.keeps x.toInCall.keep, codeAny_func ?_⟩
  obtain ⟨t, ht, hq⟩ := hbody cdv out s H vs Q E (hr.deeper _) hsp
  have I : Inv (cxOf CX0 P w K mg base N qual (defScope st) f cdv callerA out s H E) [] (start N vs) H s1 := inv_start S hr.hd e0 hl r x
  refine wpAny_mono (ht.nox.run [] s1 (start N vs) H _ I hq) (fun fl s' hs => ?_) fun e s' hs => hs
  have fin : ∀ {σ' : L2.St} {H' : Hp} {v : V} {u : Value}, Inv (cxOf CX0 P w K mg base N qual (defScope st) f cdv callerA out s H E) [] σ' H' s' → RelV v u → Q v H' → CE out P w H s Q u s' := fun {σ' H' v u} J rv q => ⟨v, H', J.os, J.bare, J.base, J.hok, rv, q⟩
  cases fl with
  | ret u => obtain ⟨v, σ', H', J, rv, q⟩ := hs; exact fin J rv q
  | next => obtain ⟨σ', H', J, q⟩ := hs; exact fin (v := V.non) (u := Value.none) J rfl q
  | brk => obtain ⟨_, _, _, q⟩ := hs; exact False.elim q
  | cont => obtain ⟨_, _, _, q⟩ := hs; exact False.elim q
theorem top_call {P : Program} {w : World} {K : PySem.W.Frag} {mg mb : Str → Option Value} {fa a : Addr} {fd : FuncData} {x : Str} {sp : Sp} {s₁ : Shared} {us : List Value} {ns : List Int}
    (KX : K.In s₁.heap) (hn : s₁.heap.Ns mainGlobals mg) (hb : s₁.heap.Ns builtinsNs mb) (hbb : ∀ x : Str, x ≠ "__name__" → mb x = bootBuiltins x) (hlim : s₁.heap.NoLimit) (hg : s₁.gens = #[])
    (ha : s₁.heap.get? a = some { cls := .type "list", data := .seq us.toArray }) (hi : IntsAre us ns) (hl : ns.length ≤ sizeLine)
    (F : ∀ base : Heap, K.In base → base.Ns mainGlobals mg → AtTop P w K mg base fa fd [x] sp) (hbind : ∀ (s : Shared) (u : Value), BindsTo s fd ⟨[u], []⟩ [(x, u)])
    (hsp : ∀ H : Hp, Only H → SqL K H a (ns.map V.int) → sp [.ref a] H (fun v _ => v = .bl true) fun _ _ _ => False) :
    codeAny (model P w) callerA (.call (.ref fa) ⟨[.ref a], []⟩) (fun r s' => r = .ok (.ret (.bool true)) ∧ OldK s₁.heap s'.heap ∧ s'.os = s₁.os ∧ AllBare s'.gens) s₁ := by
  have rv := vals_ints hi
  have lenV := hi.length
  have main : ∀ H : Hp, Only H → SqL K H a (ns.map V.int) → HOk P w H s₁.heap → (∀ b, H b ≠ none → b = a) → (H a ≠ none → K.lookup a = none) →
      codeAny (model P w) callerA (.call (.ref fa) ⟨[.ref a], []⟩) (fun r s' => r = .ok (.ret (.bool true)) ∧ OldK s₁.heap s'.heap ∧ s'.os = s₁.os ∧ AllBare s'.gens) s₁ := by
    intro H hO hS hok hA hK
    have free : ∀ b : Addr, b ≠ a → H b = none := fun b n => by
      cases q : H b with
      | none => rfl
      | some u => exact absurd (hA b (by rw [q]; simp)) n
    have noA : ∀ {b : Addr} {o : Obj} {es : Array DictEntry} {ep : Nat}, s₁.heap.get? b = some o → o.data = .dict es ep → H b = none := fun {b o es ep} e d => free b fun z => by
      rw [z, ha] at e; cases e
      exact absurd (show Data.seq us.toArray _ = Data.dict es ep from d) (fun z => nomatch z)
    have nsK : ∀ {b : Addr} {m : Str → Option Value}, s₁.heap.Ns b m → (hidT s₁.heap H).Ns b m := fun {b m} ⟨o, es, ep, e, d, r⟩ => ⟨o, es, ep, hidT_get e (noA e d), d, r⟩
    have hKb : K.In (hidT s₁.heap H) := fun b o e => hidT_get (KX b o e) (by
      cases q : H b with
      | none => rfl
      | some u =>
        have z : b = a := hA b (by rw [q]; simp)
        rw [z] at e q
        rw [hK (by rw [q]; simp)] at e; cases e)
    have hM : Mod K mg (hidT s₁.heap H) := ⟨hKb, nsK hn, ⟨mb, nsK hb, hbb⟩, let ⟨mc, h1, h2⟩ := hlim; ⟨mc, nsK h1, h2⟩⟩
    have e0 : Env0 P w K mg (hidT s₁.heap H) callerA [] s₁ H := ⟨rfl, hM, fun b o e => of_hidT e, Nat.le_of_eq (hidT_size _ _), trivial, fun b hb => (nomatch (show b ∈ ([] : List Addr) from hb)), hok, .of_eq hg⟩
    refine codeAny_mono (F _ hKb (nsK hn) [] s₁ H ⟨[.ref a], []⟩ [.ref a] [.ref a] _ _ e0 (hbind s₁ (.ref a)) (.cons rfl .nil) (hsp H hO hS)) fun r s' h => ?_
    cases r with
    | error e => exact False.elim h
    | ok fl =>
      cases fl with
      | next => exact False.elim h
      | brk => exact False.elim h
      | cont => exact False.elim h
      | ret u =>
        obtain ⟨v, H', os, bare, un, hok', r', q⟩ := h
        obtain rfl : v = .bl true := q
        obtain rfl : u = Value.bool true := r'
        refine ⟨rfl, OldK.of_keep fun b o e => ?_, os, bare⟩
        cases q : H b with
        | none => exact un.keep b o e q (fun z => nomatch (show b ∈ ([] : List Addr) from z)) (by simp)
        | some u =>
          rcases hO b with z | ⟨ob, xs, z⟩
          · rw [q] at z; cases z
          · obtain ⟨e1, _⟩ := hok b _ z
            obtain ⟨e2, _⟩ := hok' b _ (un.frzs b ob _ z)
            rw [e] at e1; cases e1; exact e2
  cases hk : K.lookup a with
  | some o =>
    have e := KX a o hk
    rw [ha] at e; cases e
    exact main (fun _ => none) (fun _ => .inl rfl) (.inr ⟨_, us.toArray, _, hk, rfl, rfl, rfl, by rw [List.size_toArray, lenV]; exact hl, by simpa using rv⟩) (fun b u z => nomatch (show (none : Option HO) = some u from z)) (fun b z => absurd rfl z) fun z => absurd rfl z
  | none =>
    refine main (fun b => if b = a then some (.frz { cls := .type "list", data := .seq us.toArray } (.lst (ns.map V.int))) else none) (fun b => ?_) (.inl (.inr ⟨{ cls := .type "list", data := .seq us.toArray }, if_pos rfl⟩)) (fun b u z => ?_) (fun b z => ?_) fun _ => hk
    · by_cases hb : b = a
      · exact .inr ⟨_, _, if_pos hb⟩
      · exact .inl (if_neg hb)
    · by_cases hb : b = a
      · have z' := (if_pos hb).symm.trans z
        cases z'; subst hb
        exact ⟨ha, by rw [List.length_map]; exact hl, us, _, rv, ha⟩
      · exact nomatch ((if_neg hb).symm.trans z)
    · by_cases hb : b = a
      · exact hb
      · exact absurd (if_neg hb) z
theorem walk_top {l : PySem.W.OpenLaw} {n : Nat} {q : Program} {loose : List Str} {XP : (Str → Option Value) → Heap → Prop} {YP : World → Heap → Prop} {d : DefRec} {K : Params → PySem.W.Frag} {sp : World → Sp} {x : Str}
    (hn : l.most = some n) (hn2 : n ≤ sizeLine) (hdf : d.params.defaults = []) (hY : ∀ (w : World) (h : Heap), YP w h → (K w.params).In h)
    (F : ∀ (w : World) (mg : Str → Option Value) (fa : Addr) (h : Heap), (K w.params).In h → h.Ns mainGlobals mg → mg d.name = some (.ref fa) →
      ∃ fd : FuncData, (∀ (s : Shared) (u : Value), BindsTo s fd ⟨[u], []⟩ [(x, u)]) ∧ ∀ base : Heap, (K w.params).In base → base.Ns mainGlobals mg → AtTop l.prog w (K w.params) mg base fa fd [x] (sp w))
    (hsp : ∀ (w : World) (H : Hp) (a : Addr) (ns : List Int), ns.length ≤ n → Only H → SqL (K w.params) H a (ns.map V.int) → sp w [.ref a] H (fun v _ => v = .bl true) fun _ _ _ => False) :
    PySem.W.WalkO q loose XP YP l.row.toRowW d [] (fun f vs => PySem.call f vs) := by
  refine Att.attach_call hn hdf fun w s₀ s₁ mg mb fa o pm cd doc a us ns G Y ho hd hcd hmg hobj hints hlen hg => ?_
  obtain ⟨fd, hb, hF⟩ := F w mg fa _ (hY w _ Y) G.T.g hmg
  exact top_call (hY w _ Y) G.T.g G.T.b G.T.builtins G.T.nolimit hg hobj hints (Nat.le_trans hlen hn2) hF hb fun H hO hS => hsp w H a ns hlen hO hS
end My

namespace My
open PySem PySem.Spec PyProof.Rows L2
/-! ### long division, as numbers -/
def rs (b d n : Int) : Nat → Int
  | 0 => n
  | i + 1 => rs b d n i * b % d
def dg (b d n : Int) (i : Nat) : Int := rs b d n i * b / d
def dl (b d n : Int) (m : Nat) : List Int := (List.range m).map (dg b d n)
theorem dl_succ (b d n : Int) (m : Nat) : dl b d n (m + 1) = dl b d n m ++ [dg b d n m] := by
  unfold dl; rw [List.range_succ, List.map_append]; rfl
theorem dl_len (b d n : Int) (m : Nat) : (dl b d n m).length = m := by unfold dl; rw [List.length_map, List.length_range]
structure Dv (b d n : Int) (m k : Nat) : Prop where
  lt : k < m
  back : rs b d n m = rs b d n k
  inj : ∀ i j, i < j → j < m → rs b d n i ≠ rs b d n j
theorem Dv.uniq {b d n : Int} {m k m' k' : Nat} (h : Dv b d n m k) (h' : Dv b d n m' k') : m = m' ∧ k = k' := by
  have e : m = m' := by
    rcases Nat.lt_trichotomy m m' with q | q | q
    · exact absurd h.back.symm (h'.inj k m h.lt q)
    · exact q
    · exact absurd h'.back.symm (h.inj k' m' h'.lt q)
  subst e
  refine ⟨rfl, ?_⟩
  have z : rs b d n k = rs b d n k' := h.back.symm.trans h'.back
  rcases Nat.lt_trichotomy k k' with q | q | q
  · exact absurd z (h.inj k k' q h'.lt)
  · exact q
  · exact absurd z.symm (h.inj k' k q h.lt)
def Soon (b d n : Int) : Prop := ∃ u v, u < v ∧ v ≤ 1000 ∧ rs b d n u = rs b d n v
theorem soon_le {b d n : Int} {i : Nat} (h : Soon b d n) (inj : ∀ x y, x < y → y < i → rs b d n x ≠ rs b d n y) : i ≤ 1000 := by
  obtain ⟨u, v, h1, h2, h3⟩ := h
  rcases Nat.lt_or_ge v i with q | q
  · exact absurd h3 (inj u v h1 q)
  · omega
theorem rs_rng {b d n : Int} (d0 : 0 < d) (n0 : 0 ≤ n) (nd : n < d) : ∀ i, 0 ≤ rs b d n i ∧ rs b d n i < d
  | 0 => ⟨n0, nd⟩
  | i + 1 => ⟨Int.emod_nonneg _ (by omega), Int.emod_lt_of_pos _ d0⟩
theorem dg_rng {b d n : Int} (d0 : 0 < d) (n0 : 0 ≤ n) (nd : n < d) (b0 : 0 < b) (i : Nat) : 0 ≤ dg b d n i ∧ dg b d n i < b := by
  obtain ⟨h1, h2⟩ := rs_rng (b := b) d0 n0 nd i
  refine ⟨Int.ediv_nonneg (Int.mul_nonneg h1 (by omega)) (by omega), Int.ediv_lt_of_lt_mul d0 ?_⟩
  rw [Int.mul_comm]
  exact Int.mul_lt_mul_of_pos_left h2 b0
theorem dl_rng {b d n : Int} (d0 : 0 < d) (n0 : 0 ≤ n) (nd : n < d) (b0 : 0 < b) (m : Nat) : ∀ x ∈ dl b d n m, 0 ≤ x ∧ x < b := by
  intro x hx
  unfold dl at hx
  obtain ⟨i, _, rfl⟩ := List.mem_map.mp hx
  exact dg_rng d0 n0 nd b0 i
/-! ### numbers that digits write -/
theorem snoc_ind {α : Type} {P : List α → Prop} (h0 : P []) (h1 : ∀ l x, P l → P (l ++ [x])) (l : List α) : P l := by
  have key : ∀ r : List α, P r.reverse := by
    intro r
    induction r with
    | nil => exact h0
    | cons x r ih => rw [List.reverse_cons]; exact h1 _ _ ih
  have := key l.reverse
  rwa [List.reverse_reverse] at this
def nb (b : Int) (l : List Int) : Int := l.foldl (fun a x => a * b + x) 0
theorem nb_snoc (b : Int) (l : List Int) (x : Int) : nb b (l ++ [x]) = nb b l * b + x := by unfold nb; rw [List.foldl_append]; rfl
theorem nb_app (b : Int) (l : List Int) : ∀ r : List Int, nb b (l ++ r) = nb b l * b ^ r.length + nb b r := by
  refine snoc_ind ?_ fun r x ih => ?_
  · simp [nb]
  · rw [← List.append_assoc, nb_snoc, ih, nb_snoc, List.length_append, List.length_singleton, Int.pow_succ]
    rw [Int.add_mul, Int.mul_assoc, Int.add_assoc]
theorem nb_rng {b : Int} (b0 : 0 < b) : ∀ l : List Int, (∀ x ∈ l, 0 ≤ x ∧ x < b) → 0 ≤ nb b l ∧ nb b l < b ^ l.length := by
  refine snoc_ind ?_ fun r x ih => ?_
  · intro _; exact ⟨by simp [nb], by simp [nb]⟩
  · intro h
    obtain ⟨i0, i1⟩ := ih fun y hy => h y (List.mem_append_left _ hy)
    obtain ⟨x0, x1⟩ := h x (by simp)
    rw [nb_snoc, List.length_append, List.length_singleton, Int.pow_succ]
    refine ⟨Int.add_nonneg (Int.mul_nonneg i0 (by omega)) x0, ?_⟩
    have : (nb b r + 1) * b ≤ b ^ r.length * b := Int.mul_le_mul_of_nonneg_right (by omega) (by omega)
    rw [Int.add_mul] at this
    omega
/-- what the first m digits tell -/
theorem div_inv (b d n : Int) : ∀ m, n * b ^ m = d * nb b (dl b d n m) + rs b d n m
  | 0 => by simp [dl, nb, rs]
  | m + 1 => by
    have ih := div_inv b d n m
    rw [dl_succ, nb_snoc, Int.pow_succ]
    have e : d * (rs b d n m * b / d) + rs b d n m * b % d = rs b d n m * b := Int.mul_ediv_add_emod _ _
    show n * (b ^ m * b) = d * (nb b (dl b d n m) * b + rs b d n m * b / d) + rs b d n m * b % d
    rw [Int.mul_add, Int.add_assoc, e, ← Int.mul_assoc, ih, Int.add_mul, Int.mul_assoc]
theorem pow_pos' {b : Int} (h : 0 < b) : ∀ k : Nat, 0 < b ^ k
  | 0 => by simp
  | k + 1 => by rw [Int.pow_succ]; exact Int.mul_pos (pow_pos' h k) h
/-- top and bottom of what stem and ring tell -/
def tp (b : Int) (S R : List Int) : Int := nb b S * (b ^ R.length - 1) + nb b R
def bt (b : Int) (S R : List Int) : Int := b ^ S.length * (b ^ R.length - 1)
theorem dv_eq {b d n : Int} {m k : Nat} (h : Dv b d n m k) : n * bt b ((dl b d n m).take k) ((dl b d n m).drop k) = d * tp b ((dl b d n m).take k) ((dl b d n m).drop k) := by
  have e : (dl b d n m).take k = dl b d n k := by
    unfold dl
    rw [← List.map_take, List.take_range, Nat.min_eq_left (Nat.le_of_lt h.lt)]
  have l1 : ((dl b d n m).drop k).length = m - k := by rw [List.length_drop, dl_len]
  have sp : nb b (dl b d n m) = nb b (dl b d n k) * b ^ (m - k) + nb b ((dl b d n m).drop k) := by
    have := nb_app b ((dl b d n m).take k) ((dl b d n m).drop k)
    rw [List.take_append_drop, e, l1] at this
    exact this
  have h1 := div_inv b d n m
  have h2 := div_inv b d n k
  rw [h.back, sp] at h1
  have pw : b ^ m = b ^ k * b ^ (m - k) := by
    rw [← Int.pow_add]; congr 1; have := h.lt; omega
  unfold bt tp
  rw [e, l1, dl_len]
  rw [pw] at h1
  have h3 : n * (b ^ k * (b ^ (m - k) - 1)) = n * (b ^ k * b ^ (m - k)) - n * b ^ k := by
    rw [Int.mul_sub, Int.mul_sub, Int.mul_one]
  rw [h3, h1, h2]
  rw [Int.mul_add, Int.mul_add, Int.mul_sub, Int.mul_sub, Int.mul_one]
  omega
end My

namespace My
open PySem PySem.Spec PyProof.Rows L2
/-! ### how many digits come ahead of the ring -/
theorem rs_mod {b d n : Int} (n0 : 0 ≤ n) (nd : n < d) : ∀ i, rs b d n i = n * b ^ i % d
  | 0 => by rw [Int.pow_zero, Int.mul_one]; exact (Int.emod_eq_of_lt n0 nd).symm
  | i + 1 => by
    show rs b d n i * b % d = _
    rw [rs_mod n0 nd i, Int.pow_succ, ← Int.mul_assoc, Int.mul_emod (n * b ^ i % d) b d, Int.emod_emod, ← Int.mul_emod]
theorem rs_add {b d n : Int} {u v : Nat} (h : rs b d n u = rs b d n v) : ∀ k, rs b d n (u + k) = rs b d n (v + k)
  | 0 => h
  | k + 1 => by show rs b d n (u + k) * b % d = rs b d n (v + k) * b % d; rw [rs_add h k]
theorem rs_iff {B D N : Nat} (b0 : 0 < B) (nd : N < D) (g : Nat.gcd N D = 1) (i p : Nat) : rs (B : Int) D N i = rs (B : Int) D N (i + p) ↔ D ∣ B ^ i * (B ^ p - 1) := by
  rw [rs_mod (Int.natCast_nonneg _) (by omega), rs_mod (Int.natCast_nonneg _) (by omega), eq_comm, Int.emod_eq_emod_iff_emod_sub_eq_zero, ← Int.dvd_iff_emod_eq_zero]
  have h1 : 1 ≤ B ^ p := Nat.pow_pos b0
  have e : (N : Int) * (B : Int) ^ (i + p) - (N : Int) * (B : Int) ^ i = ((N * (B ^ i * (B ^ p - 1)) : Nat) : Int) := by
    rw [Int.natCast_mul, Int.natCast_mul, Int.natCast_sub h1, Int.natCast_pow, Int.natCast_pow, Int.pow_add, Int.mul_sub, Int.mul_sub, Int.natCast_one, Int.mul_one]
  rw [e, Int.natCast_dvd_natCast]
  constructor
  · exact fun h => Nat.Coprime.dvd_of_dvd_mul_left (show Nat.gcd D N = 1 by rw [Nat.gcd_comm]; exact g) h
  · exact fun h => Nat.dvd_trans h (Nat.dvd_mul_left _ _)
/-- what is left of D behind i steps -/
def StemAt (B D i L : Nat) : Prop := ∃ G w, D = G * L ∧ B ^ i = G * w ∧ Nat.gcd L w = 1 ∧ 0 < L
theorem StemAt.start {B D : Nat} (d0 : 0 < D) : StemAt B D 0 D := ⟨1, 1, by simp, by simp, by simp, d0⟩
theorem StemAt.step {B D i L : Nat} (h : StemAt B D i L) : StemAt B D (i + 1) (L / Nat.gcd L B) := by
  obtain ⟨G, w, e1, e2, e3, l0⟩ := h
  obtain ⟨c, hc⟩ : ∃ c, c = Nat.gcd L B := ⟨_, rfl⟩
  rw [← hc]
  have c0 : 0 < c := by rw [hc]; exact Nat.gcd_pos_of_pos_left _ l0
  obtain ⟨x, hx⟩ : c ∣ L := by rw [hc]; exact Nat.gcd_dvd_left _ _
  obtain ⟨y, hy⟩ : c ∣ B := by rw [hc]; exact Nat.gcd_dvd_right _ _
  have ex : L / c = x := by rw [hx]; exact Nat.mul_div_cancel_left _ c0
  have x0 : 0 < x := Nat.pos_of_ne_zero fun z => by rw [z] at hx; omega
  have gxy : Nat.gcd x y = 1 := by
    have : c * Nat.gcd x y = c := by rw [← Nat.gcd_mul_left, ← hx, ← hy]; exact hc.symm
    exact Nat.eq_of_mul_eq_mul_left c0 (by rw [this, Nat.mul_one])
  have gxw : Nat.gcd x w = 1 := Nat.Coprime.coprime_dvd_left ⟨c, by rw [Nat.mul_comm]; exact hx⟩ e3
  refine ⟨G * c, w * y, ?_, ?_, ?_, by rw [ex]; exact x0⟩
  · rw [ex, e1, hx, Nat.mul_assoc]
  · rw [Nat.pow_succ, e2, hy]; simp only [Nat.mul_left_comm, Nat.mul_comm]
  · rw [ex]; exact Nat.Coprime.mul_right gxw gxy
theorem StemAt.none {B D i L p : Nat} (h : StemAt B D i L) (g : 1 < Nat.gcd L B) (p0 : 0 < p) (b0 : 0 < B) : ¬ D ∣ B ^ i * (B ^ p - 1) := by
  obtain ⟨G, w, e1, e2, e3, l0⟩ := h
  intro hd
  have g0 : 0 < G := Nat.pos_of_ne_zero fun z => by rw [z, Nat.zero_mul] at e2; exact absurd e2 (Nat.pos_iff_ne_zero.mp (Nat.pow_pos b0))
  rw [e1, e2, Nat.mul_assoc] at hd
  have h1 : L ∣ w * (B ^ p - 1) := Nat.dvd_of_mul_dvd_mul_left g0 hd
  have h2 : L ∣ B ^ p - 1 := Nat.Coprime.dvd_of_dvd_mul_left e3 h1
  have h3 : Nat.gcd L B ∣ B ^ p - 1 := Nat.dvd_trans (Nat.gcd_dvd_left _ _) h2
  have h4 : Nat.gcd L B ∣ B ^ p := Nat.dvd_trans (Nat.gcd_dvd_right L B) (by have := Nat.pow_dvd_pow B (show 1 ≤ p from p0); rwa [Nat.pow_one] at this)
  have h5 : 1 ≤ B ^ p := Nat.pow_pos b0
  have h6 : Nat.gcd L B ∣ 1 := by
    have : B ^ p - (B ^ p - 1) = 1 := by omega
    rw [← this]
    exact Nat.dvd_sub h4 h3
  have := Nat.le_of_dvd (by decide) h6
  omega
theorem StemAt.ends {B D s L u p : Nat} (h : StemAt B D s L) (g : Nat.gcd L B = 1) (hd : D ∣ B ^ u * (B ^ p - 1)) : D ∣ B ^ s * (B ^ p - 1) := by
  obtain ⟨G, w, e1, e2, e3, l0⟩ := h
  have h1 : L ∣ B ^ u * (B ^ p - 1) := Nat.dvd_trans ⟨G, by rw [Nat.mul_comm]; exact e1⟩ hd
  have h2 : L ∣ B ^ p - 1 := Nat.Coprime.dvd_of_dvd_mul_left (Nat.Coprime.pow_right u g) h1
  rw [e1, e2, Nat.mul_assoc]
  exact Nat.mul_dvd_mul_left G (Nat.dvd_trans h2 (Nat.dvd_mul_left _ _))
/-- the count of the digits ahead, as the program counts it -/
def StemEnd (B D s : Nat) : Prop := (∀ i, i < s → ∃ L, StemAt B D i L ∧ 1 < Nat.gcd L B) ∧ ∃ L, StemAt B D s L ∧ Nat.gcd L B = 1
structure Stem (b d n : Int) (s : Nat) : Prop where
  ahead : ∀ i j, i < s → i < j → rs b d n i ≠ rs b d n j
  round : ∀ u v, u < v → rs b d n u = rs b d n v → rs b d n s = rs b d n (s + (v - u))
theorem stem_of {B D N s : Nat} (b0 : 0 < B) (nd : N < D) (g : Nat.gcd N D = 1) (h : StemEnd B D s) : Stem (B : Int) D N s := by
  obtain ⟨h1, L, h2, h3⟩ := h
  constructor
  · intro i j hi hij e
    obtain ⟨L', a, c⟩ := h1 i hi
    obtain ⟨p, rfl⟩ : ∃ p, j = i + p := ⟨j - i, by omega⟩
    exact a.none c (by omega) b0 ((rs_iff b0 nd g i p).mp e)
  · intro u v huv e
    obtain ⟨p, rfl⟩ : ∃ p, v = u + p := ⟨v - u, by omega⟩
    rw [show u + p - u = p by omega]
    exact (rs_iff b0 nd g s p).mpr (h2.ends h3 ((rs_iff b0 nd g u p).mp e))
theorem Stem.soon {b d n : Int} {s : Nat} (h : Stem b d n s) (q : Soon b d n) : ∃ p, 0 < p ∧ s + p ≤ 1000 ∧ rs b d n (s + p) = rs b d n s := by
  obtain ⟨u, v, h1, h2, h3⟩ := q
  have hu : s ≤ u := by
    rcases Nat.lt_or_ge u s with z | z
    · exact absurd h3 (h.ahead u v z h1)
    · exact z
  exact ⟨v - u, by omega, by omega, (h.round u v h1 h3).symm⟩
theorem Stem.dv {b d n : Int} {s j : Nat} (h : Stem b d n s) (j0 : 0 < j) (hb : rs b d n (s + j) = rs b d n s) (no : ∀ i, 0 < i → i < j → rs b d n (s + i) ≠ rs b d n s) : Dv b d n (s + j) s := by
  refine ⟨by omega, hb, fun x y hxy hy => ?_⟩
  rcases Nat.lt_or_ge x s with z | z
  · exact h.ahead x y z hxy
  · intro e
    obtain ⟨x', rfl⟩ : ∃ k, x = s + k := ⟨x - s, by omega⟩
    obtain ⟨y', rfl⟩ : ∃ k, y = s + k := ⟨y - s, by omega⟩
    have e2 := rs_add e (j - y')
    rw [show s + y' + (j - y') = s + j by omega, hb] at e2
    exact no (x' + (j - y')) (by omega) (by omega) (by rw [← Nat.add_assoc]; exact e2)
end My

namespace My
open PySem PySem.Spec PyProof.Rows L2
abbrev sNumberOf : Stmt := topS 20
abbrev sInLowest : Stmt := topS 18
abbrev sFractionOf : Stmt := topS 17
abbrev sRed : Stmt := topS 33
/-! ### lowest terms -/
def gN (a b : Int) : Int := ((Nat.gcd b.natAbs a.natAbs : Nat) : Int)
def spRed : Sp := fun vs H Q _ => ∃ a b : Int, vs = [.int a, .int b] ∧ 0 ≤ a ∧ 0 < b ∧ b.natAbs < 2 ^ 8000 ∧ ∀ q, H q = none → Q (.ref q) (upd H q (.tup [.int (a / gN a b), .int (b / gN a b)]))
theorem gcd_turn (x y : Nat) : Nat.gcd y (x % y) = Nat.gcd x y := by
  rw [Nat.gcd_comm x y, Nat.gcd_rec y x, Nat.gcd_comm]
section
variable {P : Program} {w : World} {K : PySem.W.Frag} {mg : Str → Option Value} {base : Heap}
theorem scRed : FnScope ["top", "whole", "one", "other"] ["top", "whole"] (defScope sRed) := ⟨rfl, rfl, rfl, by decide +kernel, rfl, by decide +kernel, by decide +kernel⟩
theorem ok_red {f : Addr} {fd : FuncData} (F : Fun K "_law_reduced" "_law_reduced" sRed f fd) : FnOk P w K mg base CX0 1 f fd ["top", "whole"] spRed := by
  refine F.ok scRed (fun vs H Q E h => ?_) (fun cdv A outer s H vs Q E hr h => ?_)
  · obtain ⟨a, b, rfl, _⟩ := h
    rfl
  · obtain ⟨a, b, rfl, a0, b0, bb, k⟩ := h
    refine ⟨_, pss_cons (ps_par (i := 2) (j := 3) (by rfl) scRed.nd rfl rfl (by decide) rfl rfl (pa_cons (pv 1) (pa_cons (pv 0) pa_nil)) (by rfl))
      (pss_cons (ps_while PassesOwn.never (pt_cmpR op_ne (pv 3) pe_int (nomark _))
        (pss_one (ps_par (i := 2) (j := 3) (by rfl) scRed.nd rfl rfl (by decide) rfl rfl (pa_cons (pv 3) (pa_cons (pe_op op_mod (pv 2) (pv 3)) pa_nil)) (by rfl))))
      (pss_one (ps_ret (pe_tup (pa_cons (pe_op op_fdivW (pv 0) (pv 2)) (pa_cons (pe_op op_fdivW (pv 1) (pv 2)) pa_nil)))))), ?_⟩
    refine ⟨_, rfl, _, rfl, _, _, rfl, ?_⟩
    refine while_by (fun σ H2 => ∃ x y : Nat, σ = [some (.int a), some (.int b), some (.int (x : Int)), some (.int (y : Int))] ∧ H2 = H ∧ Nat.gcd x y = Nat.gcd b.natAbs a.natAbs) (fun σ _ => match σ with | [_, _, _, some (.int y)] => y.natAbs | _ => 0) ?_ ?_ ?_
    · refine ⟨b.natAbs, a.natAbs, ?_, rfl, rfl⟩
      have e1 : ((b.natAbs : Nat) : Int) = b := by omega
      have e2 : ((a.natAbs : Nat) : Int) = a := by omega
      rw [e1, e2]; rfl
    · rintro σ H2 ⟨x, y, rfl, rfl, hg⟩
      refine ⟨_, rfl, rfl, _, rfl, ?_⟩
      by_cases hy : y = 0
      · have e1 : (!decide (V.int (y : Int) = V.int 0)) = false := by rw [hy]; rfl
        refine ifF e1 ?_
        subst hy
        have hx : x = Nat.gcd b.natAbs a.natAbs := by rw [← hg, Nat.gcd_zero_right]
        have g0 : 0 < x := by rw [hx]; exact Nat.gcd_pos_of_pos_left _ (by omega)
        have gb : x ≤ b.natAbs := by rw [hx]; exact Nat.le_of_dvd (by omega) (Nat.gcd_dvd_left _ _)
        have wd : ∀ z : Int, CDivW z (x : Int) := fun z => wide_div (b := 8000) (by omega) (Nat.lt_of_le_of_lt gb bb) (by decide) (by decide)
        refine ⟨_, rfl, _, rfl, _, _, rfl, rfl, wd _, _, rfl, _, rfl, _, _, rfl, rfl, wd _, (by show 2 ≤ sizeLine; decide), fun q hq => ?_⟩
        have e : gN a b = (x : Int) := by unfold gN; rw [hx]
        have kq := k q hq
        rw [e] at kq
        exact kq
      · have e1 : (!decide (V.int (y : Int) = V.int 0)) = true := by
          rw [decide_eq_false]
          · rfl
          · intro z
            have := V.int.inj z
            omega
        refine ifT e1 ?_
        have y0 : (0 : Int) < (y : Int) := by omega
        refine ⟨_, rfl, _, rfl, _, rfl, _, _, rfl, rfl, y0, _, _, rfl, ⟨y, x % y, ?_, rfl, by rw [gcd_turn, hg]⟩, ?_⟩
        · rw [Int.natCast_emod]; rfl
        · show ((x : Int) % (y : Int)).natAbs < ((y : Int)).natAbs
          have := Nat.mod_lt x (Nat.pos_of_ne_zero hy)
          omega
    · intro σ H2 Q1 Q2 m h
      obtain ⟨v, e, h1, b1, e2, h2⟩ := h
      exact ⟨v, e, h1, b1, e2, m _ _ h2⟩
end
abbrev sLDivided : Stmt := topS 35
abbrev sLNumber : Stmt := topS 37
def iTup (l : List Int) : PyData := .tuple (l.map .int)
structure Tx (mg : Str → Option Value) : Prop where
  len : mg "len" = none
  divmod : mg "divmod" = none
  tuple : mg "tuple" = none
theorem dq_mk {K : PySem.W.Frag} {G : Hp} {a : Addr} {l : List Int} (h : G a = some (.tup (l.map V.int))) : Dq K G (.ref a) (iTup l) := .tup h (dq_ints K G l)
theorem cut_take (l : List Int) (k : Nat) : cutV (l.map V.int) none (some (k : Int)) = (l.take k).map V.int := by
  unfold cutV
  have a1 : HT.sIx (l.map V.int).length 0 none = 0 := rfl
  rw [sIx_nat, a1, List.drop_zero, Nat.sub_zero, List.map_take, ← List.take_take, List.take_length]
theorem cut_drop (l : List Int) (k : Nat) : cutV (l.map V.int) (some (k : Int)) none = (l.drop k).map V.int := by
  unfold cutV
  have a1 : HT.sIx (l.map V.int).length (l.map V.int).length none = (l.map V.int).length := rfl
  rw [sIx_nat, a1, List.map_drop]
  rcases Nat.le_total k (l.map V.int).length with h | h
  · rw [Nat.min_eq_left h, List.take_of_length_le (by rw [List.length_drop]; exact Nat.le_refl _)]
  · rw [Nat.min_eq_right h, Nat.sub_self, List.take_zero, List.drop_eq_nil_of_le h]
/-- what a division is asked of -/
structure Asked (b d n : Int) : Prop where
  b0 : 2 ≤ b
  b1 : b ≤ 10
  n0 : 0 ≤ n
  nd : n < d
  dz : d.natAbs < 2 ^ 8000
  soon : Soon b d n
  gc : Nat.gcd n.natAbs d.natAbs = 1
def spDivided (K : PySem.W.Frag) : Sp := fun vs H Q _ => ∃ (b n d : Int) (G : Hp), vs = [.int b, .int n, .int d] ∧ Asked b d n ∧ Same G H ∧
  ∀ m k, Dv b d n m k → ∀ (v : V) (G' H' : Hp), Nw G H G' H' → Dq K G' v (.tuple [iTup ((dl b d n m).take k), iTup ((dl b d n m).drop k)]) → Q v H'
def spLDivided (K : PySem.W.Frag) : Sp := fun vs H Q _ => ∃ (b n d : Int) (G : Hp), vs = [.int b, .int n, .int d] ∧ 0 < d ∧ (n ≠ d → Asked b d n) ∧ Same G H ∧
  (n = d → ∀ (v : V) (G' H' : Hp), Nw G H G' H' → Dq K G' v (.tuple [iTup [], iTup [b - 1]]) → Q v H') ∧
  (n ≠ d → ∀ m k, Dv b d n m k → ∀ (v : V) (G' H' : Hp), Nw G H G' H' → Dq K G' v (.tuple [iTup ((dl b d n m).take k), iTup ((dl b d n m).drop k)]) → Q v H')
/-- digits of a base -/
def Digs (b : Int) (l : List Int) : Prop := ∀ x ∈ l, 0 ≤ x ∧ x < b
def spNumberOf (K : PySem.W.Frag) : Sp := fun vs H Q _ => ∃ (b : Int) (v : V) (l : List Int) (G : Hp), vs = [.int b, v] ∧ 2 ≤ b ∧ b ≤ 10 ∧ Same G H ∧ Dq K G v (iTup l) ∧ ∀ (a : Addr) (G' H' : Hp), Nw G H G' H' → G' a = some (.tup [.int (nb b l), .int (b ^ l.length)]) → Q (.ref a) H'
def spLNumber (K : PySem.W.Frag) : Sp := fun vs H Q _ => ∃ (b : Int) (v : V) (l : List Int) (G : Hp), vs = [.int b, v] ∧ 2 ≤ b ∧ b ≤ 10 ∧ Same G H ∧ Dq K G v (iTup l) ∧ Q (.int (nb b l)) H
def spInLowest : Sp := fun vs H Q _ => ∃ a b : Int, vs = [.int a, .int b] ∧ 0 < b ∧ b.natAbs < 2 ^ 8000 ∧ ∀ q, H q = none → Q (.ref q) (upd H q (.tup [.int (a / gN a b), .int (b / gN a b)]))
theorem small1000000 {n : Nat} (h : n ≤ 1000000) : n < sizeLine := by rw [sizeLine_eq]; omega
theorem same_put {H H2 : Hp} (s : Same H H2) {p : Addr} (n : H p = none) {o : HO} : Same H (upd H2 p o) := fun b u h => by rw [upd_ne (ne_of_none h n)]; exact s b u h
theorem dq_tup {K : PySem.W.Frag} {G : Hp} {v : V} {l : List Int} (h : Dq K G v (iTup l)) : ∃ a, v = .ref a ∧ G a = some (.tup (l.map V.int)) := by
  cases h with
  | tup hs ha =>
    rename_i a xs
    refine ⟨a, rfl, ?_⟩
    have key : ∀ (xs : List V) (l : List Int), DqAll K G xs (l.map .int) → xs = l.map V.int := by
      intro xs l
      induction l generalizing xs with
      | nil => intro h; cases h; rfl
      | cons x r ih => intro h; cases h with | cons h1 h2 => cases h1; rw [ih _ h2]; rfl
    rw [← key xs l ha]; exact hs
theorem Nw.pre {G H H1 G' H' : Hp} (e : Same H H1) (g : Nw G H1 G' H') : Nw G H G' H' := ⟨g.gg, g.gh, e.trans g.hh, fun c hc => g.old c (keep_ne e hc)⟩
def spStem : Sp := fun vs H Q _ => ∃ b d : Int, vs = [.int b, .int d] ∧ 2 ≤ b ∧ b ≤ 10 ∧ 0 < d ∧ d.natAbs < 2 ^ 8000 ∧ ∀ s : Nat, StemEnd b.toNat d.toNat s → Q (.int (s : Int)) H
theorem asked_stem {b d n : Int} {s : Nat} (a : Asked b d n) (h : StemEnd b.toNat d.toNat s) : Stem b d n s := by
  obtain ⟨b0, b1, n0, nd, dz, so, gc⟩ := a
  obtain ⟨B, rfl⟩ : ∃ B : Nat, b = (B : Int) := ⟨b.toNat, by omega⟩
  obtain ⟨D, rfl⟩ : ∃ D : Nat, d = (D : Int) := ⟨d.toNat, by omega⟩
  obtain ⟨N, rfl⟩ : ∃ N : Nat, n = (N : Int) := ⟨n.toNat, by omega⟩
  rw [Int.toNat_natCast, Int.toNat_natCast] at h
  exact stem_of (by omega) (by omega) gc h
theorem dl_take {b d n : Int} (s j : Nat) : (dl b d n (s + j)).take s = dl b d n s := by
  induction j with
  | zero => rw [Nat.add_zero]; exact List.take_of_length_le (by rw [dl_len]; exact Nat.le_refl _)
  | succ j ih => rw [← Nat.add_assoc, dl_succ, List.take_append_of_le_length (by rw [dl_len]; omega)]; exact ih
theorem dl_drop_succ {b d n : Int} (s j : Nat) : (dl b d n (s + (j + 1))).drop s = (dl b d n (s + j)).drop s ++ [dg b d n (s + j)] := by
  rw [← Nat.add_assoc, dl_succ, List.drop_append_of_le_length (by rw [dl_len]; omega)]
section
variable {P : Program} {w : World} {K : PySem.W.Frag} {mg : Str → Option Value} {base : Heap}
end
end My

namespace My
open PySem PySem.Spec PyProof.Rows L2
/-! ### t * k, any k that is not below nought -/
theorem mul_same (l : Addr) (items : Array Value) (n : Nat) (dd : Option Addr) (sl : Array (Option Value)) (u : Tok) :
    Meets (Builtin.«tuple.__mul__» ⟨[.ref l, .int 1 u], []⟩) (fun _ R s => s.heap.get? l = some { cls := .type "tuple", dict := dd, data := .seq items n, slots := sl } ∧ R (.ok (.ret (Value.ref l))) s) :=
  .of_wp fun prog w A R s h => by
    obtain ⟨hp, g, d, tk, os⟩ := s
    obtain ⟨hl, h⟩ := h
    have f1 := AutoSeq1.idx_int
    have c1 : (items.isEmpty || (1 : Int) == 1) = true := by rw [Bool.or_comm]; rfl
    wp_walk using wpAny_loadPart' hl
    repeat (first
      | (refine wpAny_ite_true (decide_eq_true c1) ?_; wp_walk using wpAny_loadPart' hl)
      | (refine wpAny_ite_false (decide_eq_false (by decide)) ?_; wp_walk using wpAny_loadPart' hl))
    exact ⟨_, rfl, h⟩
theorem mul_none (l : Addr) (items : Array Value) (n : Nat) (dd : Option Addr) (sl : Array (Option Value)) (u : Tok) (c1 : (items.isEmpty || (0 : Int) == 1) = false) :
    Meets (Builtin.«tuple.__mul__» ⟨[.ref l, .int 0 u], []⟩) (fun _ R s => s.heap.get? l = some { cls := .type "tuple", dict := dd, data := .seq items n, slots := sl } ∧ R (.ok (.ret (Value.ref s.heap.objs.size))) { s with heap := s.heap.push { cls := Value.type "tuple", data := Data.seq #[] }, toks := s.toks }) :=
  .of_wp fun prog w A R s h => by
    obtain ⟨hp, g, d, tk, os⟩ := s
    obtain ⟨hl, h⟩ := h
    have f1 := AutoSeq1.idx_int
    have c2 : (decide ((0 : Int) ≤ 0) || items.isEmpty) = true := rfl
    wp_walk using wpAny_loadPart' hl
    repeat (first
      | (refine wpAny_ite_false (decide_eq_false (by rw [c1]; exact Bool.false_ne_true)) ?_; wp_walk using wpAny_loadPart' hl)
      | (refine wpAny_ite_true (decide_eq_true c2) ?_; wp_walk using wpAny_loadPart' hl)
      | (refine wpAny_ite_false (decide_eq_false (by decide)) ?_; wp_walk using wpAny_loadPart' hl))
    exact ⟨_, rfl, h⟩
def rMulT (K : PySem.W.Frag) : R2 := fun x y H Q => ∃ l k xs, x = .ref l ∧ y = .int k ∧ SqT K H l xs ∧ xs ≠ [] ∧ 0 ≤ k ∧ k ≤ 1000 ∧ xs.length ≤ 1000 ∧ (k = 1 → Q (.ref l) H) ∧ (k ≠ 1 → ∀ p, H p = none → Q (.ref p) (upd H p (.tup (List.replicate k.toNat xs).flatten)))
theorem op_mulT {X : Cx} : OpR X (binaryOp .Mult) (rMulT X.K) := by
  intro pins s σ H x y v u Q I rx ry h
  obtain ⟨l, k, xs, rfl, rfl, hT, hne, h0, h1, hz, q1, q2⟩ := h
  by_cases k2 : 2 ≤ k
  · exact op_repT pins s σ H _ _ v u Q I rx ry ⟨l, k, xs, rfl, rfl, hT, hne, k2, h1, hz, q2 (by omega)⟩
  cases rx
  obtain ⟨t, rfl⟩ := ry
  obtain ⟨its, r, ⟨⟨cls, dd, data, sl⟩, ho, hc, n, hd⟩, hs⟩ := I.tuple hT
  simp only at hc hd
  subst hc hd
  have hle : its.length = xs.length := r.length.symm
  have hi : its.toArray.isEmpty = false := by
    cases its with
    | nil => exact absurd (List.eq_nil_of_length_eq_zero hle.symm) hne
    | cons a b => rfl
  by_cases k1 : k = 1
  · subst k1
    exact wpAny_binaryOp_repeat_ref (T := "tuple") (U := "int") (by decide) ⟨_, ho, rfl⟩ (fun s' => typeIs_int s' 1 t) noFill_tuple_mul F.fills_int_mul F.slot_int_rmul repeat_tuple F.slot_int_index.lookup
      (call_meets F.slot_int_rmul (typeIs_int s 1 t) F.entry_int_rmul (F.args_int_rmul_2 _ _) (int_rmul_tuple 1 t l its.toArray n dd sl) ⟨ho, rfl, ⟨_, ho, rfl⟩, call_meets F.slot_tuple_mul ⟨_, ho, rfl⟩ F.entry_tuple_mul (F.args_tuple_mul_2 _ _) (mul_same l its.toArray n dd sl t) ⟨ho, .ref l, H, I, rfl, q1 rfl⟩⟩)
  · have k0 : k = 0 := by omega
    subst k0
    refine wpAny_binaryOp_repeat_ref (T := "tuple") (U := "int") (by decide) ⟨_, ho, rfl⟩ (fun s' => typeIs_int s' 0 t) noFill_tuple_mul F.fills_int_mul F.slot_int_rmul repeat_tuple F.slot_int_index.lookup
      (call_meets F.slot_int_rmul (typeIs_int s 0 t) F.entry_int_rmul (F.args_int_rmul_2 _ _) (int_rmul_tuple 0 t l its.toArray n dd sl) ⟨ho, rfl, ⟨_, ho, rfl⟩, call_meets F.slot_tuple_mul ⟨_, ho, rfl⟩ F.entry_tuple_mul (F.args_tuple_mul_2 _ _) (mul_none l its.toArray n dd sl t (by rw [hi]; rfl)) ⟨ho, ?_⟩⟩)
    refine ⟨.ref s.heap.objs.size, _, I.laid (t' := s.toks) (o := .tup []) (fun b ob q => Heap.get?_push_of_some _ q) (Nat.le_refl _) ?_, rfl, q2 (by decide) _ (I.hok.fresh (Nat.le_refl _))⟩
    exact ⟨by simp, [], .nil, IsTup.new _ _⟩
/-! ### rules by what stands still -/
theorem OpR.imp {X : Cx} {f : Value → Value → Sem Value} {r r' : R2} (h : OpR X f r) (i : ∀ x y H Q, r' x y H Q → r x y H Q) : OpR X f r' := fun pins s σ H x y v u Q I rx ry q => h pins s σ H x y v u Q I rx ry (i _ _ _ _ q)
theorem SlR.imp {X : Cx} {r r' : V → Option Int → Option Int → Hp → VK → Prop} (h : SlR X r) (i : ∀ x lo hi H Q, r' x lo hi H Q → r x lo hi H Q) : SlR X r' := fun pins s σ H x v vl vu lo hi sl Q I rx hs pl pu q => h pins s σ H x v vl vu lo hi sl Q I rx hs pl pu (i _ _ _ _ _ q)
def rMulG : R2 := fun x y H Q => ∃ (G : Hp) (l : Addr) (k : Int) (xs : List V), x = .ref l ∧ y = .int k ∧ Same G H ∧ G l = some (.tup xs) ∧ xs ≠ [] ∧ 0 ≤ k ∧ k ≤ 1000 ∧ xs.length ≤ 1000 ∧ ∀ (a : Addr) (G' H' : Hp), Nw G H G' H' → G' a = some (.tup (List.replicate k.toNat xs).flatten) → Q (.ref a) H'
theorem op_mulG {X : Cx} : OpR X (binaryOp .Mult) rMulG := OpR.imp op_mulT fun x y H Q ⟨G, l, k, xs, e1, e2, e, hl, hn, k0, k1, hz, q⟩ =>
  ⟨l, k, xs, e1, e2, SqT.of (e _ _ hl), hn, k0, k1, hz, fun z => q l G H (Nw.refl e) (by rw [z]; simpa using hl), fun _ p np => q p _ _ (Nw.mk1 e np _) upd_same⟩
def rCatG : R2 := fun x y H Q => ∃ (G : Hp) (a b : Addr) (xs ys : List V), x = .ref a ∧ y = .ref b ∧ Same G H ∧ G a = some (.tup xs) ∧ G b = some (.tup ys) ∧ xs.length + ys.length ≤ sizeLine ∧ ∀ (c : Addr) (G' H' : Hp), Nw G H G' H' → G' c = some (.tup (xs ++ ys)) → Q (.ref c) H'
theorem op_catG {X : Cx} : OpR X (binaryOp .Add) rCatG := OpR.imp op_catA fun x y H Q ⟨G, a, b, xs, ys, e1, e2, e, ha, hb, hz, q⟩ =>
  ⟨a, b, xs, ys, e1, e2, SqT.of (e _ _ ha), SqT.of (e _ _ hb), hz, fun z => q b G H (Nw.refl e) (by rw [z]; simpa using hb), fun _ z => q a G H (Nw.refl e) (by rw [z]; simpa using ha), fun _ _ p np => q p _ _ (Nw.mk1 e np _) upd_same⟩
def rSlG : V → Option Int → Option Int → Hp → VK → Prop := fun x lo hi H Q => ∃ (G : Hp) (a : Addr) (xs : List V), x = .ref a ∧ Same G H ∧ G a = some (.tup xs) ∧ ∀ (c : Addr) (G' H' : Hp), Nw G H G' H' → G' c = some (.tup (cutV xs lo hi)) → Q (.ref c) H'
theorem sl_tupG {X : Cx} : SlR X rSlG := SlR.imp sl_tupA fun x lo hi H Q ⟨G, a, xs, e1, e, ha, q⟩ =>
  ⟨a, xs, e1, SqT.of (e _ _ ha), fun z => q a G H (Nw.refl e) (by
    have : cutV xs lo hi = xs := by
      unfold cutV
      rw [z.1, z.2, List.drop_zero, Nat.sub_zero, List.take_length]
    rw [this]; exact ha), fun _ p np => q p _ _ (Nw.mk1 e np _) upd_same⟩
end My

namespace My
open PySem PySem.Spec PyProof.Rows L2
abbrev sOnce : Stmt := topS 19
theorem dp_ints {K : PySem.W.Frag} {H : Hp} {a : Addr} {l : List Int} (h : H a = some (.tup (l.map V.int))) : Dp K H (.ref a) (iTup l) := by
  refine .tup (SqT.of h) ?_
  clear h
  induction l with
  | nil => exact .nil
  | cons x r ih => exact .cons (.int x) ih
theorem eqv_ints : ∀ l m : List Int, PyData.eqvAll (l.map PyData.int) (m.map PyData.int) = decide (l = m)
  | [], [] => rfl
  | [], _ :: _ => by simp [PyData.eqvAll]
  | _ :: _, [] => by simp [PyData.eqvAll]
  | x :: l, y :: m => by
    show (PyData.eqv (.int x) (.int y) && PyData.eqvAll (l.map PyData.int) (m.map PyData.int)) = _
    rw [eqv_ints l m]
    simp only [PyData.eqv]
    by_cases h1 : x = y <;> by_cases h2 : l = m <;> simp [h1, h2]
theorem eqv_iTup (l m : List Int) : PyData.eqv (iTup l) (iTup m) = decide (l = m) := by
  unfold iTup
  simp only [PyData.eqv]
  exact eqv_ints l m
theorem shaped_iTup (l : List Int) : SeqAt.shaped (iTup l) = true := by
  have h1 : PyData.canLayAll0 (l.map PyData.int) = true := by
    induction l with
    | nil => simp [PyData.canLayAll0]
    | cons x r ih => simp only [List.map_cons, PyData.canLayAll0, PyData.canLay0, ih, Bool.and_true]
  have h2 : PyData.depthAll (l.map PyData.int) = 0 := by
    clear h1
    induction l with
    | nil => simp only [List.map_nil, PyData.depthAll]
    | cons x r ih => simp only [List.map_cons, PyData.depthAll, PyData.depth, ih]; rfl
  unfold SeqAt.shaped iTup
  simp only [PyData.canLay0, PyData.depth, h1, h2]
  rfl
theorem low_nat {N D T B : Nat} (h : N * B = D * T) (hd : 0 < D) (hb : 0 < B) (g : Nat.gcd N D = 1) : T / Nat.gcd B T = N ∧ B / Nat.gcd B T = D := by
  have d1 : D ∣ N * B := ⟨T, h⟩
  have d2 : D ∣ B := (Nat.Coprime.dvd_of_dvd_mul_left (show Nat.Coprime D N by rw [Nat.coprime_comm]; exact g) d1)
  obtain ⟨c, rfl⟩ := d2
  have ht : T = N * c := by
    have : D * (N * c) = D * T := by rw [← h]; rw [Nat.mul_left_comm]
    exact (Nat.eq_of_mul_eq_mul_left hd this).symm
  subst ht
  have c0 : 0 < c := Nat.pos_of_ne_zero fun z => by rw [z] at hb; simp at hb
  have hg : Nat.gcd (D * c) (N * c) = c := by rw [Nat.gcd_mul_right, Nat.gcd_comm D N, g, Nat.one_mul]
  rw [hg]
  exact ⟨Nat.mul_div_cancel _ c0, Nat.mul_div_cancel _ c0⟩
theorem low_int {n d t b : Int} (h : n * b = d * t) (n0 : 0 ≤ n) (d0 : 0 < d) (b0 : 0 < b) (g : Nat.gcd n.natAbs d.natAbs = 1) : t / gN t b = n ∧ b / gN t b = d := by
  have t0 : 0 ≤ t := by
    rcases Int.lt_or_le t 0 with q | q
    · have h1 : d * t < 0 := Int.mul_neg_of_pos_of_neg d0 q
      have h2 : 0 ≤ n * b := Int.mul_nonneg n0 (by omega)
      omega
    · exact q
  obtain ⟨N, rfl⟩ : ∃ N : Nat, n = (N : Int) := ⟨n.toNat, by omega⟩
  obtain ⟨D, rfl⟩ : ∃ N : Nat, d = (N : Int) := ⟨d.toNat, by omega⟩
  obtain ⟨T, rfl⟩ : ∃ N : Nat, t = (N : Int) := ⟨t.toNat, by omega⟩
  obtain ⟨B, rfl⟩ : ∃ N : Nat, b = (N : Int) := ⟨b.toNat, by omega⟩
  have h' : N * B = D * T := by
    have : ((N * B : Nat) : Int) = ((D * T : Nat) : Int) := by rw [Int.natCast_mul, Int.natCast_mul]; exact h
    omega
  obtain ⟨e1, e2⟩ := low_nat h' (by omega) (by omega) g
  have eg : gN (T : Int) (B : Int) = ((Nat.gcd B T : Nat) : Int) := rfl
  rw [eg, ← Int.natCast_ediv, ← Int.natCast_ediv, e1, e2]
  exact ⟨rfl, rfl⟩
theorem at_int {l : List Int} {i : Nat} {x : V} (hx : (l.map V.int)[i]? = some x) : ∃ z, l[i]? = some z ∧ x = .int z := by
  rw [List.getElem?_map] at hx
  cases q : l[i]? with
  | none => rw [q] at hx; cases hx
  | some z => rw [q] at hx; exact ⟨z, rfl, (Option.some.inj hx).symm⟩
theorem rep_flat2 (l : List Int) (k : Nat) : (List.replicate k (l.map V.int)).flatten = ((List.replicate k l).flatten).map V.int := by
  rw [List.map_flatten, List.map_replicate]
theorem len_rep (l : List Int) (k : Nat) : (List.replicate k l).flatten.length = k * l.length := by
  induction k with
  | zero => simp
  | succ k ih => rw [List.replicate_succ, List.flatten_cons, List.length_append, ih, Nat.succ_mul, Nat.add_comm]
/-! ### a ring of many rounds -/
def Rnd (R R' : List Int) : Prop := R' ≠ [] ∧ ∃ q, R = (List.replicate q R').flatten
theorem nb_rep (b : Int) (l : List Int) (q : Nat) : nb b (List.replicate q l).flatten * (b ^ l.length - 1) = nb b l * (b ^ (q * l.length) - 1) := by
  induction q with
  | zero => simp [nb]
  | succ q ih =>
    rw [List.replicate_succ, List.flatten_cons, nb_app, len_rep, Int.add_mul, ih, Nat.succ_mul, Int.pow_add]
    generalize nb b l = x
    generalize b ^ (q * l.length) = y
    generalize b ^ l.length = z
    simp only [Int.mul_sub, Int.mul_one, Int.mul_assoc]
    omega
theorem red_cross {t b t' b' : Int} (h : t' * b = b' * t) (t0 : 0 ≤ t') (b0 : 0 < b) (b1 : 0 < b') : t / gN t b = t' / gN t' b' ∧ b / gN t b = b' / gN t' b' := by
  obtain ⟨g, hg⟩ : ∃ g, g = gN t' b' := ⟨_, rfl⟩
  have gp : 0 < g := by
    rw [hg]; unfold gN
    have : 0 < Nat.gcd b'.natAbs t'.natAbs := Nat.gcd_pos_of_pos_left _ (by omega)
    omega
  have gt : g ∣ t' := by rw [hg]; unfold gN; exact Int.ofNat_dvd_left.mpr (Nat.gcd_dvd_right _ _)
  have gb : g ∣ b' := by rw [hg]; unfold gN; exact Int.ofNat_dvd_left.mpr (Nat.gcd_dvd_left _ _)
  obtain ⟨n, hn⟩ := gt
  obtain ⟨d, hd⟩ := gb
  have en : t' / g = n := by rw [hn]; exact Int.mul_ediv_cancel_left _ (by omega)
  have ed : b' / g = d := by rw [hd]; exact Int.mul_ediv_cancel_left _ (by omega)
  have n0 : 0 ≤ n := by
    rcases Int.lt_or_le n 0 with q | q
    · have := Int.mul_neg_of_pos_of_neg gp q
      omega
    · exact q
  have d0 : 0 < d := by
    rcases Int.lt_or_le 0 d with q | q
    · exact q
    · have := Int.mul_nonpos_of_nonneg_of_nonpos (show 0 ≤ g by omega) q
      omega
  have gc : Nat.gcd n.natAbs d.natAbs = 1 := by
    have e1 : t'.natAbs = g.natAbs * n.natAbs := by rw [hn, Int.natAbs_mul]
    have e2 : b'.natAbs = g.natAbs * d.natAbs := by rw [hd, Int.natAbs_mul]
    have e3 : g.natAbs = Nat.gcd b'.natAbs t'.natAbs := by rw [hg]; rfl
    rw [e1, e2, Nat.gcd_mul_left] at e3
    have e4 : g.natAbs * Nat.gcd d.natAbs n.natAbs = g.natAbs * 1 := by rw [← e3, Nat.mul_one]
    rw [Nat.gcd_comm]
    exact Nat.eq_of_mul_eq_mul_left (by omega) e4
  have h2 : n * b = d * t := by
    rw [hn, hd, Int.mul_assoc, Int.mul_assoc] at h
    exact Int.eq_of_mul_eq_mul_left (by omega) h
  have := low_int h2 n0 d0 b0 gc
  rw [← hg, en, ed]
  exact this
theorem rnd_q {R R' : List Int} (h : Rnd R R') (hR : R ≠ []) : ∃ q, 0 < q ∧ R = (List.replicate q R').flatten := by
  obtain ⟨_, q, e⟩ := h
  refine ⟨q, Nat.pos_of_ne_zero fun z => hR ?_, e⟩
  subst z; rw [e]; rfl
theorem rnd_digs {b : Int} {R R' : List Int} (h : Rnd R R') (hR : R ≠ []) (hd : ∀ x ∈ R, 0 ≤ x ∧ x < b) : ∀ x ∈ R', 0 ≤ x ∧ x < b := by
  obtain ⟨q, q0, e⟩ := rnd_q h hR
  intro x hx
  refine hd x ?_
  rw [e]
  exact List.mem_flatten.mpr ⟨R', List.mem_replicate.mpr ⟨by omega, rfl⟩, hx⟩
theorem rnd_len {R R' : List Int} (h : Rnd R R') (hR : R ≠ []) : R'.length ≤ R.length := by
  obtain ⟨q, q0, e⟩ := rnd_q h hR
  rw [e, len_rep]
  exact Nat.le_mul_of_pos_left _ q0
section
variable {P : Program} {w : World} {K : PySem.W.Frag} {mg : Str → Option Value} {base : Heap}
def rLenK (K : PySem.W.Frag) : List V → Hp → VK → Prop := fun xs H Q => ∃ p ys, xs = [V.ref p] ∧ (SqL K H p ys ∨ SqT K H p ys) ∧ Q (V.int (ys.length : Int)) H
def spOnce (K : PySem.W.Frag) : Sp := fun vs H Q _ => ∃ (v : V) (R : List Int) (G : Hp), vs = [v] ∧ Same G H ∧ Dq K G v (iTup R) ∧ R ≠ [] ∧ R.length ≤ 1000 ∧
  ∀ (R' : List Int) (v' : V) (G' H' : Hp), Nw G H G' H' → Dq K G' v' (iTup R') → Rnd R R' → Q v' H'
theorem scOnce : FnScope ["ring", "size", "sizes"] ["ring"] (defScope sOnce) := ⟨rfl, rfl, rfl, by decide +kernel, rfl, by decide +kernel, by decide +kernel⟩
theorem ok_once {f : Addr} {fd : FuncData} (F : Fun K "_once" "_once" sOnce f fd) (ml : mg "len" = none) (mr : mg "range" = none) : FnOk P w K mg base CX0 1 f fd ["ring"] (spOnce K) := by
  refine F.ok scOnce (fun vs H Q E h => ?_) (fun cdv A outer s H vs Q E hr h => ?_)
  · obtain ⟨v, R, G, rfl, _⟩ := h
    rfl
  · obtain ⟨v, R, G, rfl, e, dv, hR, r1, k⟩ := h
    obtain ⟨a, rfl, ga⟩ := dq_tup dv
    obtain ⟨n, hn⟩ : ∃ n, R.length = n + 1 := ⟨R.length - 1, by cases R with | nil => exact absurd rfl hR | cons x r => simp⟩
    refine ⟨_, (pss_cons (ps_setLc (i := 2) (own := [("size", 1)]) (g := gName 1) rfl scOnce.nd rfl (by rfl) (sw_true (by rfl) (by rfl) (by rfl) (by rfl)) (pi_range2 (by rfl) mr (pa_cons pe_int (pa_cons (pe_callB call_len_seq (by rfl) ml PySem.boot_len (pa_cons (pv 0) pa_nil)) pa_nil))) (blkOk_by (N := ["ring", "size", "sizes"]) (sc := defScope sOnce) (by decide +kernel)) (fun _ _ _ _ _ => (pg_name (i := 1) scOnce.nd rfl (Or.inl rfl)))
        (fun _ _ _ _ _ => pts_one (pt_cmpR op_eq (pe_op op_mod (pe_callB (show CallR _ _ (rLenK K) from call_len_seq) (by rfl) ml PySem.boot_len (pa_cons (pv 0) pa_nil)) (pv 1)) pe_int (nomark _))) (fun _ _ _ _ _ => (pv 1)))
      (pss_cons (ps_for PassesOwn.never rfl (pi_list (pv 2)) (pg_name (i := 1) scOnce.nd rfl (Or.inl rfl)) (pss_one (ps_if (pt_cmpR (op_eqD hr.units) (pe_op op_mulG (pe_slice sl_tupG (pv 0) po_none (po_some (pv 1))) (pe_op op_fdivW (pe_callB call_len_seq (by rfl) ml PySem.boot_len (pa_cons (pv 0) pa_nil)) (pv 1))) (pv 0) (nomark _)) (pss_one (ps_ret (pe_slice sl_tupG (pv 0) po_none (po_some (pv 1))))) pss_nil)))
      (pss_one (ps_ret (pv 0))))), ?_⟩
    have ln : ((R.map V.int).length : Int) = (n : Int) + 1 := by rw [List.length_map, hn]; rfl
    refine ⟨_, rfl, a, _, rfl, .inr (SqT.of (e _ _ ga)), 1, _, rfl, ⟨by decide, by decide, by omega, by omega⟩, fun D nD => ?_⟩
    rw [ln, show ((n : Int) + 1 - 1).toNat = n by omega]
    refine lc_it (walk_range (lo := 1) (n := n)) (fun i Hi => Same H Hi ∧ ∃ zs : List Nat, Hi D = some (.lst ((zs.map (fun z : Nat => (z : Int))).map V.int)) ∧ zs.length ≤ i ∧ ∀ z ∈ zs, 1 ≤ z ∧ z ≤ n) ⟨Same.upd nD, [], upd_same, Nat.le_refl _, fun _ z => nomatch z⟩ (fun _ _ _ _ => trivial) ?_ ?_
    · rintro i x Hi Hj hi ⟨si, zs, hD, hl, hz⟩ ⟨rfl, rfl⟩
      refine ⟨rfl, ?_⟩
      refine ⟨_, rfl, a, _, rfl, .inr (SqT.of (si _ _ (e _ _ ga))), _, rfl, _, _, rfl, rfl, by omega, rfl, _, rfl, ite2 (fun _ => ?_) (fun _ => ?_)⟩
      · refine ⟨_, rfl, _, hD, by rw [List.length_map, List.length_map, sizeLine_eq]; omega, fun c o hc => ?_, zs ++ [1 + i], ?_, by rw [List.length_append, List.length_singleton]; omega, fun z hz2 => ?_⟩
        · rw [upd_ne (ne_of_none hc nD)]; exact si c o hc
        · rw [upd_same, List.map_append, List.map_append]; rfl
        · rcases List.mem_append.mp hz2 with q | q
          · exact hz z q
          · rw [List.mem_singleton.mp q]; omega
      · exact ⟨si, zs, hD, by omega, hz⟩
    · rintro Hi ⟨si, zs, hD, _, hz⟩
      have gi : Same G Hi := e.trans si
      refine ⟨_, rfl, D, rfl, ⟨_, SqL.of hD⟩, for_list (K := K) (a := D) (xs := (zs.map (fun z : Nat => (z : Int))).map V.int) (fun i σ H2 => ∃ y1 : Option V, σ = [some (.ref a), y1, some (.ref D)] ∧ Same Hi H2) ⟨_, rfl, Same.refl _⟩ (fun i σ H2 _ q => SqL.of (by obtain ⟨_, _, q⟩ := q; exact q _ _ hD)) ?_ ?_⟩
      · rintro i x σ H2 hx ⟨y1, rfl, s2⟩
        obtain ⟨zi, hzi, rfl⟩ := at_int hx
        rw [List.getElem?_map] at hzi
        obtain ⟨z, hzz, rfl⟩ := Option.map_eq_some_iff.mp hzi
        obtain ⟨z1, zn⟩ := hz z (List.mem_of_getElem? hzz)
        have g2 : Same G H2 := gi.trans s2
        refine ⟨_, rfl, _, rfl, (z : Int), rfl, G, a, _, rfl, g2, ga, fun c G3 H3 m3 hc => ?_⟩
        rw [cut_take] at hc
        have ltz : (R.take z).length = z := by rw [List.length_take]; omega
        have wd : ∀ y : Int, CDivW y (z : Int) := fun y => wide_div (b := 10) (by omega) (show ((z : Int)).natAbs < 2 ^ 10 by omega) (by decide) (by decide)
        have q0 : 0 ≤ ((R.map V.int).length : Int) / (z : Int) := Int.ediv_nonneg (by omega) (by omega)
        have q1 : ((R.map V.int).length : Int) / (z : Int) ≤ 1000 := by
          have := Int.ediv_le_self (z : Int) (show 0 ≤ ((R.map V.int).length : Int) by omega)
          omega
        refine ⟨_, rfl, a, _, rfl, .inr (SqT.of (m3.gh _ _ (m3.gg _ _ ga))), _, rfl, _, _, rfl, rfl, wd _, ?_⟩
        refine ⟨G3, c, _, _, rfl, rfl, m3.gh, hc, (fun h0 => by have := congrArg List.length h0; rw [List.length_map, ltz] at this; simp at this; omega), q0, q1, by rw [List.length_map, ltz]; omega, fun m G4 H4 m4 hm => ?_⟩
        rw [rep_flat2] at hm
        have m34 := m3.trans m4
        refine ⟨_, rfl, iTup _, iTup R, dp_ints (m4.gh _ _ hm), dp_ints (m34.gh _ _ (m34.gg _ _ ga)), shaped_iTup _, shaped_iTup _, _, rfl, ?_⟩
        rw [eqv_iTup]
        refine ite2 (fun hy => ?_) (fun _ => ?_)
        · have hy := of_decide_eq_true hy
          refine ⟨_, rfl, _, rfl, (z : Int), rfl, G4, a, _, rfl, m34.gh, m34.gg _ _ ga, fun c2 G5 H5 m5 hc2 => ?_⟩
          rw [cut_take] at hc2
          exact k (R.take z) _ _ _ (Nw.pre (si.trans s2) (m34.trans m5)) (dq_mk hc2) ⟨fun h0 => by rw [h0] at ltz; simp at ltz; omega, _, hy.symm⟩
        · exact ⟨_, rfl, s2.trans m34.hh⟩
      · rintro σ H2 ⟨y1, rfl, s2⟩
        exact ⟨_, rfl, k R _ _ _ (Nw.pre (si.trans s2) (Nw.refl (gi.trans s2))) dv ⟨hR, 1, by simp⟩⟩
end
end My

namespace My
open PySem PySem.Spec PyProof.Rows L2
theorem pow_lt_2 {b : Int} (b0 : 2 ≤ b) (b1 : b ≤ 10) (k : Nat) : (b ^ k).natAbs < 2 ^ (4 * k + 1) := by
  have h : b.natAbs < 2 ^ 4 := by omega
  rw [Int.natAbs_pow]
  have h2 : b.natAbs ^ k ≤ (2 ^ 4) ^ k := Nat.pow_le_pow_left (by omega) k
  rw [← Nat.pow_mul] at h2
  have h3 : 2 ^ (4 * k) < 2 ^ (4 * k + 1) := Nat.pow_lt_pow_right (by decide) (by omega)
  omega
theorem nb_lt_2 {b : Int} (b0 : 2 ≤ b) (b1 : b ≤ 10) {l : List Int} (h : Digs b l) : (nb b l).natAbs < 2 ^ (4 * l.length + 1) := by
  obtain ⟨h1, h2⟩ := nb_rng (by omega) l h
  exact Nat.lt_of_le_of_lt (by omega) (pow_lt_2 b0 b1 l.length)
theorem pow_ge_1 {b : Int} (b0 : 2 ≤ b) (k : Nat) : 1 ≤ b ^ k := by
  have := pow_pos' (b := b) (by omega) k
  omega
theorem pow_ge_2 {b : Int} (b0 : 2 ≤ b) {k : Nat} (hk : 0 < k) : 2 ≤ b ^ k := by
  obtain ⟨j, rfl⟩ : ∃ j, k = j + 1 := ⟨k - 1, by omega⟩
  rw [Int.pow_succ]
  have h := pow_ge_1 b0 j
  have : 1 * b ≤ b ^ j * b := Int.mul_le_mul_of_nonneg_right h (by omega)
  omega
theorem bt_pos {b : Int} (b0 : 2 ≤ b) (S : List Int) {R : List Int} (hR : R ≠ []) : 0 < bt b S R := by
  unfold bt
  have h1 := pow_ge_1 b0 S.length
  have h2 := pow_ge_2 b0 (k := R.length) (by cases R with | nil => exact absurd rfl hR | cons _ _ => simp)
  exact Int.mul_pos (by omega) (by omega)
theorem tp_nn {b : Int} (b0 : 2 ≤ b) {S R : List Int} (hS : Digs b S) (hR : Digs b R) : 0 ≤ tp b S R := by
  unfold tp
  have h1 := (nb_rng (by omega) S hS).1
  have h2 := (nb_rng (by omega) R hR).1
  have h3 := pow_ge_1 b0 R.length
  exact Int.add_nonneg (Int.mul_nonneg h1 (by omega)) h2
theorem pow_sub_lt {b : Int} (b0 : 2 ≤ b) (b1 : b ≤ 10) (k : Nat) : (b ^ k - 1).natAbs < 2 ^ (4 * k + 1) := by
  have h := pow_ge_1 b0 k
  exact Nat.lt_of_le_of_lt (by omega) (pow_lt_2 b0 b1 k)
theorem bt_lt {b : Int} (b0 : 2 ≤ b) (b1 : b ≤ 10) {S R : List Int} (h : S.length + R.length ≤ 1900) : (bt b S R).natAbs < 2 ^ 8000 := by
  unfold bt
  have := wide_lt (pow_lt_2 b0 b1 S.length) (pow_sub_lt b0 b1 R.length)
  exact Nat.lt_of_lt_of_le this (Nat.pow_le_pow_right (by decide) (by omega))
section
variable {P : Program} {w : World} {K : PySem.W.Frag} {mg : Str → Option Value} {base : Heap}
theorem scNumberOf : FnScope ["base", "digits", "number", "size", "digit"] ["base", "digits"] (defScope sNumberOf) := ⟨rfl, rfl, rfl, by decide +kernel, rfl, by decide +kernel, by decide +kernel⟩
theorem small_base {b : Int} (b0 : 2 ≤ b) (b1 : b ≤ 10) (x : Int) : CMul x b := .inr ⟨by omega, by omega⟩
theorem nb_take (b : Int) (l : List Int) {i : Nat} {x : Int} (h : l[i]? = some x) : nb b (l.take (i + 1)) = nb b (l.take i) * b + x := by
  rw [List.take_add_one, h]; exact nb_snoc b _ x
theorem ok_numberOf {f : Addr} {fd : FuncData} (F : Fun K "_number_of" "_number_of" sNumberOf f fd) : FnOk P w K mg base CX0 1 f fd ["base", "digits"] (spNumberOf K) := by
  refine F.ok scNumberOf (fun vs H Q E h => ?_) (fun cdv A outer s H vs Q E hr h => ?_)
  · obtain ⟨b, v, l, G, rfl, _⟩ := h
    rfl
  · obtain ⟨b, v, l, G, rfl, b0, b1, e, dq, k⟩ := h
    obtain ⟨a, rfl, ha⟩ := dq_tup dq
    have hS : SqT K H a (l.map V.int) := SqT.of (e _ _ ha)
    refine ⟨_, (pss_cons (ps_asg (pe_tup (pa_cons pe_int (pa_cons pe_int pa_nil))) (pg_tup (by rfl) (pgs_cons (pg_name (i := 2) scNumberOf.nd rfl (Or.inl rfl)) (pgs_cons (pg_name (i := 3) scNumberOf.nd rfl (Or.inl rfl)) pgs_nil))))
      (pss_cons (ps_for PassesOwn.never rfl (pi_tup (pv 1)) (pg_name (i := 4) scNumberOf.nd rfl (Or.inl rfl)) (pss_cons (ps_set (i := 2) scNumberOf.nd rfl (Or.inl rfl) (pe_op op_add (pe_op op_mul (pv 2) (pv 0)) (pv 4)))
      (pss_one (ps_set (i := 3) scNumberOf.nd rfl (Or.inl rfl) (pe_op op_mul (pv 3) (pv 0))))))
      (pss_one (ps_ret (pe_tup (pa_cons (pv 2) (pa_cons (pv 3) pa_nil))))))), ?_⟩
    refine ⟨(by show 2 ≤ sizeLine; decide), fun t nt => ⟨t, _, rfl, SqT.of upd_same, rfl, _, _, rfl, _, _, rfl, rfl, ?_⟩⟩
    have m0 := Nw.mk1 e nt (.tup [.int 0, .int 1])
    have hS2 : SqT K (upd H t (.tup [.int 0, .int 1])) a (l.map V.int) := SqT.of (m0.hh _ _ (e _ _ ha))
    refine ⟨_, rfl, a, rfl, ⟨_, hS2⟩, for_tup (K := K) (a := a) (xs := l.map V.int) (fun i σ H2 => H2 = upd H t (.tup [.int 0, .int 1]) ∧ ∃ y : Option V, σ = [some (.int b), some (.ref a), some (.int (nb b (l.take i))), some (.int (b ^ i)), y]) ⟨rfl, none, by rw [Int.pow_zero]; rfl⟩ (fun i σ H2 _ q => by rw [q.1]; exact hS2) ?_ ?_⟩
    · rintro i x σ H2 hx ⟨rfl, y, rfl⟩
      obtain ⟨z, hz, rfl⟩ := at_int hx
      refine ⟨_, rfl, _, rfl, _, _, rfl, rfl, small_base b0 b1 _, _, rfl, _, _, rfl, rfl, ?_⟩
      refine ⟨_, rfl, _, rfl, _, _, rfl, rfl, small_base b0 b1 _, rfl, some (.int z), ?_⟩
      rw [nb_take b l hz, Int.pow_succ]
      rfl
    · rintro σ H2 ⟨rfl, y, rfl⟩
      refine ⟨_, rfl, _, rfl, (by show 2 ≤ sizeLine; decide), fun q nq => ?_⟩
      rw [List.length_map, List.take_length]
      exact k q _ _ (m0.trans (Nw.mk1 m0.gh nq _)) upd_same
theorem scLNumber : FnScope ["base", "digits", "number", "digit"] ["base", "digits"] (defScope sLNumber) := ⟨rfl, rfl, rfl, by decide +kernel, rfl, by decide +kernel, by decide +kernel⟩
theorem ok_lnumber {f : Addr} {fd : FuncData} (F : Fun K "_law_number" "_law_number" sLNumber f fd) : FnOk P w K mg base CX0 1 f fd ["base", "digits"] (spLNumber K) := by
  refine F.ok scLNumber (fun vs H Q E h => ?_) (fun cdv A outer s H vs Q E hr h => ?_)
  · obtain ⟨b, v, l, G, rfl, _⟩ := h
    rfl
  · obtain ⟨b, v, l, G, rfl, b0, b1, e, dq, k⟩ := h
    obtain ⟨a, rfl, ha⟩ := dq_tup dq
    have hS : SqT K H a (l.map V.int) := SqT.of (e _ _ ha)
    refine ⟨_, (pss_cons (ps_set (i := 2) scLNumber.nd rfl (Or.inl rfl) pe_int)
      (pss_cons (ps_for PassesOwn.never rfl (pi_tup (pv 1)) (pg_name (i := 3) scLNumber.nd rfl (Or.inl rfl)) (pss_one (ps_set (i := 2) scLNumber.nd rfl (Or.inl rfl) (pe_op op_add (pe_op op_mul (pv 2) (pv 0)) (pv 3)))))
      (pss_one (ps_ret (pv 2))))), ?_⟩
    refine ⟨_, rfl, a, rfl, ⟨_, hS⟩, for_tup (K := K) (a := a) (xs := l.map V.int) (fun i σ H2 => H2 = H ∧ ∃ y : Option V, σ = [some (.int b), some (.ref a), some (.int (nb b (l.take i))), y]) ⟨rfl, none, rfl⟩ (fun i σ H2 _ q => by rw [q.1]; exact hS) ?_ ?_⟩
    · rintro i x σ H2 hx ⟨rfl, y, rfl⟩
      obtain ⟨z, hz, rfl⟩ := at_int hx
      refine ⟨_, rfl, _, rfl, _, _, rfl, rfl, small_base b0 b1 _, _, rfl, _, _, rfl, rfl, rfl, some (.int z), ?_⟩
      rw [nb_take b l hz]
      rfl
    · rintro σ H2 ⟨rfl, y, rfl⟩
      refine ⟨_, rfl, ?_⟩
      rw [List.length_map, List.take_length]
      exact k
theorem scInLowest : FnScope ["top", "bottom", "common"] ["top", "bottom"] (defScope sInLowest) := ⟨rfl, rfl, rfl, by decide +kernel, rfl, by decide +kernel, by decide +kernel⟩
theorem ok_inLowest {f : Addr} {fd : FuncData} (F : Fun K "in_lowest_terms" "in_lowest_terms" sInLowest f fd) (gG : mg "gcd" = some (.builtin "math.gcd")) : FnOk P w K mg base CX0 1 f fd ["top", "bottom"] spInLowest := by
  refine F.ok scInLowest (fun vs H Q E h => ?_) (fun cdv A outer s H vs Q E hr h => ?_)
  · obtain ⟨a, b, rfl, _⟩ := h
    rfl
  · obtain ⟨a, b, rfl, b0, bb, k⟩ := h
    refine ⟨_, (pss_cons (ps_set (i := 2) scInLowest.nd rfl (Or.inl rfl) (pe_callBfun cr_gcd (by rfl) gG (pa_cons (pv 0) (pa_cons (pv 1) pa_nil))))
      (pss_one (ps_ret (pe_tup (pa_cons (pe_op op_fdivW (pv 0) (pv 2)) (pa_cons (pe_op op_fdivW (pv 1) (pv 2)) pa_nil)))))), ?_⟩
    have e : ((Nat.gcd a.natAbs b.natAbs : Nat) : Int) = gN a b := by unfold gN; rw [Nat.gcd_comm]
    have gp : 0 < Nat.gcd a.natAbs b.natAbs := Nat.gcd_pos_of_pos_right _ (by omega)
    have gb : Nat.gcd a.natAbs b.natAbs ≤ b.natAbs := Nat.le_of_dvd (by omega) (Nat.gcd_dvd_right _ _)
    have wd : ∀ z : Int, CDivW z ((Nat.gcd a.natAbs b.natAbs : Nat) : Int) := fun z => wide_div (b := 8000) (by omega) (Nat.lt_of_le_of_lt (by omega) bb) (by decide) (by decide)
    refine ⟨_, rfl, _, rfl, a, b, rfl, _, rfl, _, rfl, _, _, rfl, rfl, wd _, _, rfl, _, rfl, _, _, rfl, rfl, wd _, (by show 2 ≤ sizeLine; decide), fun q nq => ?_⟩
    have kq := k q nq
    rw [← e] at kq
    exact kq
theorem bt_pos' {b : Int} (b0 : 2 ≤ b) (S : List Int) {R : List Int} (hR : R ≠ []) : 0 < bt b S R := bt_pos b0 S hR
theorem tp_bt_rnd {b : Int} (S R' : List Int) (q : Nat) : tp b S R' * bt b S (List.replicate q R').flatten = bt b S R' * tp b S (List.replicate q R').flatten := by
  unfold tp bt
  have h := nb_rep b R' q
  rw [len_rep]
  generalize nb b (List.replicate q R').flatten = x at h ⊢
  generalize nb b R' = y at h ⊢
  generalize b ^ (q * R'.length) = u at h ⊢
  generalize b ^ R'.length = v at h ⊢
  generalize nb b S = s
  generalize b ^ S.length = t
  have e : (s * (v - 1) + y) * (t * (u - 1)) = t * (s * (v - 1) * (u - 1) + y * (u - 1)) := by
    rw [Int.add_mul, Int.mul_add, Int.mul_left_comm (s * (v - 1)) t, Int.mul_left_comm y t]
  have e2 : t * (v - 1) * (s * (u - 1) + x) = t * (s * (v - 1) * (u - 1) + x * (v - 1)) := by
    rw [Int.mul_assoc, Int.mul_add (v - 1), Int.mul_comm (v - 1) x, ← Int.mul_assoc (v - 1) s, Int.mul_comm (v - 1) s]
  rw [e, e2, h]
/-- the fraction of stem and ring -/
def frD (b : Int) (S R : List Int) : PyData := .tuple [.int (tp b S R / gN (tp b S R) (bt b S R)), .int (bt b S R / gN (tp b S R) (bt b S R))]
def spFractionOf (K : PySem.W.Frag) : Sp := fun vs H Q _ => ∃ (b : Int) (x y : V) (S R : List Int) (G : Hp), vs = [.int b, x, y] ∧ 2 ≤ b ∧ b ≤ 10 ∧ Same G H ∧ Dq K G x (iTup S) ∧ Dq K G y (iTup R) ∧ R ≠ [] ∧ Digs b S ∧ Digs b R ∧ S.length + R.length ≤ 1000 ∧
  ∀ (v : V) (G' H' : Hp), Nw G H G' H' → Dq K G' v (frD b S R) → Q v H'
theorem frD_rnd {b : Int} (b0 : 2 ≤ b) {S R R' : List Int} (hS : Digs b S) (hd : Digs b R) (hR : R ≠ []) (h : Rnd R R') : frD b S R' = frD b S R := by
  have hd' := rnd_digs h hR hd
  obtain ⟨q, q0, e⟩ := rnd_q h hR
  have e1 := tp_bt_rnd (b := b) S R' q
  rw [← e] at e1
  obtain ⟨c1, c2⟩ := red_cross e1 (tp_nn b0 hS hd') (bt_pos b0 S hR) (bt_pos b0 S h.1)
  unfold frD
  rw [c1, c2]
theorem scFractionOf : FnScope ["base", "stem", "ring", "ahead", "ahead_size", "around", "around_size", "rounds"] ["base", "stem", "ring"] (defScope sFractionOf) := ⟨rfl, rfl, rfl, by decide +kernel, rfl, by decide +kernel, by decide +kernel⟩
theorem ok_fractionOf {f fN fI fO : Addr} {fd fdN fdI fdO : FuncData} (F : Fun K "fraction_of" "fraction_of" sFractionOf f fd) (FN : Fun K "_number_of" "_number_of" sNumberOf fN fdN) (bN : Binds K fdN ["base", "digits"] []) (gN0 : mg "_number_of" = some (.ref fN))
    (FI : Fun K "in_lowest_terms" "in_lowest_terms" sInLowest fI fdI) (bI : Binds K fdI ["top", "bottom"] []) (gI : mg "in_lowest_terms" = some (.ref fI)) (gG : mg "gcd" = some (.builtin "math.gcd"))
    (FO : Fun K "_once" "_once" sOnce fO fdO) (bO : Binds K fdO ["ring"] []) (gO : mg "_once" = some (.ref fO)) (ml : mg "len" = none) (mr : mg "range" = none) : FnOk P w K mg base CX0 2 f fd ["base", "stem", "ring"] (spFractionOf K) := by
  have GN : FnOk P w K mg base CX0 1 fN fdN ["base", "digits"] (spNumberOf K) := ok_numberOf FN
  have GI : FnOk P w K mg base CX0 1 fI fdI ["top", "bottom"] spInLowest := ok_inLowest FI gG
  have GO : FnOk P w K mg base CX0 1 fO fdO ["ring"] (spOnce K) := ok_once FO ml mr
  refine F.ok scFractionOf (fun vs H Q E h => ?_) (fun cdv A outer s H vs Q E hr h => ?_)
  · obtain ⟨b, x, y, S, R, G, rfl, _⟩ := h
    rfl
  · obtain ⟨b, x, y, S, R, G, rfl, b0, b1, e, dx, dy, hR, dS, dR, hl, k⟩ := h
    have hr1 := hr
    refine ⟨_, (pss_cons (ps_asg (pe_call GN hr1 (by rfl) gN0 FN.kp bN .nil pass0 (pa_cons (pv 0) (pa_cons (pv 1) pa_nil))) (pg_tup (by rfl) (pgs_cons (pg_name (i := 3) scFractionOf.nd rfl (Or.inl rfl)) (pgs_cons (pg_name (i := 4) scFractionOf.nd rfl (Or.inl rfl)) pgs_nil))))
      (pss_cons (ps_asg (pe_call GN hr1 (by rfl) gN0 FN.kp bN .nil pass0 (pa_cons (pv 0) (pa_cons (pe_call GO hr1 (by rfl) gO FO.kp bO .nil pass0 (pa_cons (pv 2) pa_nil)) pa_nil))) (pg_tup (by rfl) (pgs_cons (pg_name (i := 5) scFractionOf.nd rfl (Or.inl rfl)) (pgs_cons (pg_name (i := 6) scFractionOf.nd rfl (Or.inl rfl)) pgs_nil))))
      (pss_cons (ps_set (i := 7) scFractionOf.nd rfl (Or.inl rfl) (pe_op op_sub (pv 6) pe_int))
      (pss_one (ps_ret (pe_call GI hr1 (by rfl) gI FI.kp bI .nil pass0 (pa_cons (pe_op op_add (pe_op op_mulW (pv 3) (pv 7)) (pv 5)) (pa_cons (pe_op op_mulW (pv 4) (pv 7)) pa_nil)))))))), ?_⟩
    refine ⟨_, rfl, _, rfl, b, x, S, G, rfl, b0, b1, e, dx, fun q1 G1 H1 m1 hq1 => ?_⟩
    refine ⟨q1, _, rfl, SqT.of (m1.gh _ _ hq1), rfl, _, _, rfl, _, _, rfl, rfl, ?_⟩
    refine ⟨_, rfl, _, rfl, y, R, _, rfl, m1.gh, dy.mono m1.gg, hR, by omega, fun R' y' G5 H5 m15 dy' rnd => ?_⟩
    have fe := frD_rnd b0 dS dR hR rnd
    rw [← fe] at k
    have dR' := rnd_digs rnd hR dR
    have lR' := rnd_len rnd hR
    have hR' := rnd.1
    clear fe rnd
    clear dR dy hR
    replace hl : S.length + R'.length ≤ 1000 := by omega
    refine ⟨b, y', R', _, rfl, b0, b1, m15.gh, dy', fun q2 G2 H2 m12 hq2 => ?_⟩
    refine ⟨q2, _, rfl, SqT.of (m12.gh _ _ hq2), rfl, _, _, rfl, _, _, rfl, rfl, ?_⟩
    have m2 := (m1.trans m15).trans m12
    have a1 := nb_lt_2 b0 b1 dS
    have a2 := pow_sub_lt b0 b1 R'.length
    have a3 := pow_lt_2 b0 b1 S.length
    refine ⟨_, rfl, _, _, rfl, rfl, _, rfl, _, rfl, _, _, rfl, rfl, wide_mul a1 a2 (by omega) (by omega) (by omega), _, rfl, _, _, rfl, rfl, _, rfl, _, rfl, _, _, rfl, rfl, wide_mul a3 a2 (by omega) (by omega) (by omega), ?_⟩
    refine ⟨tp b S R', bt b S R', rfl, bt_pos b0 S hR', bt_lt b0 b1 (by omega), fun q nq => ?_⟩
    have m3 := m2.trans (Nw.mk1 m2.gh nq (.tup [.int (tp b S R' / gN (tp b S R') (bt b S R')), .int (bt b S R' / gN (tp b S R') (bt b S R'))]))
    exact k _ _ _ m3 (.tup upd_same (.cons (.int _) (.cons (.int _) .nil)))
end
end My

namespace My
open PySem PySem.Spec PyProof.Rows L2
abbrev sWorth : Stmt := topS 38
abbrev sLWritings : Stmt := topS 36
theorem inV_int (r : Int) (l : List Int) : inV (.int r) (l.map V.int) = decide (r ∈ l) := by
  unfold inV
  rw [List.any_map]
  induction l with
  | nil => rfl
  | cons x l ih =>
    rw [List.any_cons, ih]
    by_cases h : r = x
    · subst h
      simp [eqV]
    · have h1 : (x == r) = false := beq_eq_false_iff_ne.mpr fun z => h z.symm
      show ((x == r) || decide (r ∈ l)) = decide (r ∈ x :: l)
      rw [h1, Bool.false_or]
      exact decide_eq_decide.mpr ⟨fun z => List.mem_cons_of_mem _ z, fun z => (List.mem_cons.mp z).resolve_left h⟩
theorem flat_ints (l : List Int) : (l.map V.int).all flatV = true := by
  rw [List.all_map]
  exact List.all_eq_true.mpr fun _ _ => rfl
def rl (b d n : Int) (m : Nat) : List Int := (List.range m).map (rs b d n)
theorem rl_succ (b d n : Int) (m : Nat) : rl b d n (m + 1) = rl b d n m ++ [rs b d n m] := by
  unfold rl; rw [List.range_succ, List.map_append]; rfl
theorem rl_len (b d n : Int) (m : Nat) : (rl b d n m).length = m := by unfold rl; rw [List.length_map, List.length_range]
theorem rl_get {b d n : Int} {m i : Nat} (h : i < m) : (rl b d n m)[i]? = some (rs b d n i) := by
  unfold rl; rw [List.getElem?_map, List.getElem?_range h]; rfl
theorem rl_mem {b d n : Int} {m : Nat} {r : Int} : r ∈ rl b d n m ↔ ∃ j, j < m ∧ rs b d n j = r := by
  unfold rl
  rw [List.mem_map]
  constructor
  · rintro ⟨j, h, e⟩; exact ⟨j, List.mem_range.mp h, e⟩
  · rintro ⟨j, h, e⟩; exact ⟨j, List.mem_range.mpr h, e⟩
theorem rep_flat (x : Int) (k : Nat) : (List.replicate k [V.int x]).flatten = (List.replicate k x).map V.int := by
  induction k with
  | zero => rfl
  | succ k ih => rw [List.replicate_succ, List.flatten_cons, ih, List.replicate_succ]; rfl
theorem nb_nines (b : Int) (k : Nat) : nb b (List.replicate k (b - 1)) = b ^ k - 1 := by
  induction k with
  | zero => simp [nb]
  | succ k ih =>
    rw [List.replicate_succ', nb_snoc, ih, Int.pow_succ, Int.sub_mul]
    omega
theorem nb_zeros (b : Int) (k : Nat) : nb b (List.replicate k 0) = 0 := by
  induction k with
  | zero => simp [nb]
  | succ k ih => rw [List.replicate_succ', nb_snoc, ih]; simp
theorem nb_scale (b : Int) (k : Nat) : nb b (1 :: List.replicate k 0) = b ^ k := by
  have := nb_app b [1] (List.replicate k 0)
  rw [nb_zeros, List.length_replicate] at this
  have e : nb b [1] = 1 := by simp [nb]
  rw [e] at this
  simpa using this
section
variable {P : Program} {w : World} {K : PySem.W.Frag} {mg : Str → Option Value} {base : Heap}
theorem scLDivided : FnScope ["base", "top", "whole", "digits", "rests", "at"] ["base", "top", "whole"] (defScope sLDivided) := ⟨rfl, rfl, rfl, by decide +kernel, rfl, by decide +kernel, by decide +kernel⟩
theorem ok_ldivided {f : Addr} {fd : FuncData} (F : Fun K "_law_divided" "_law_divided" sLDivided f fd) (T : Tx mg) : FnOk P w K mg base CX0 1 f fd ["base", "top", "whole"] (spLDivided K) := by
  refine F.ok scLDivided (fun vs H Q E h => ?_) (fun cdv A outer s H vs Q E hr h => ?_)
  · obtain ⟨b, n, d, G, rfl, _⟩ := h
    rfl
  · obtain ⟨b, n, d, G, rfl, d0, ask, e, k1, k2⟩ := h
    refine ⟨_, (pss_cons (ps_if (pt_cmpR op_eq (pv 1) (pv 2) (nomark _)) (pss_one (ps_ret (pe_tup (pa_cons (pe_tup pa_nil) (pa_cons (pe_tup (pa_cons (pe_op op_sub (pv 0) pe_int) pa_nil)) pa_nil))))) pss_nil)
      (pss_cons (ps_set (i := 3) scLDivided.nd rfl (Or.inl rfl) (pe_lst pa_nil))
      (pss_cons (ps_set (i := 4) scLDivided.nd rfl (Or.inl rfl) (pe_lst pa_nil))
      (pss_cons (ps_while PassesOwn.never (pt_cmpR op_notIn_seq (pv 1) (pv 4) (by rfl)) (pss_cons (ps_expr (pe_bm PySem.F.plainAttrs_list PySem.F.slot_list_append PySem.F.type_list_append mt_append (pv 4) (pa_cons (pv 1) pa_nil)))
      (pss_cons (ps_expr (pe_bm PySem.F.plainAttrs_list PySem.F.slot_list_append PySem.F.type_list_append mt_append (pv 3) (pa_cons (pe_op op_fdivW (pe_op op_mul (pv 1) (pv 0)) (pv 2)) pa_nil)))
      (pss_one (ps_set (i := 1) scLDivided.nd rfl (Or.inl rfl) (pe_op op_mod (pe_op op_mul (pv 1) (pv 0)) (pv 2)))))))
      (pss_cons (ps_set (i := 5) scLDivided.nd rfl (Or.inl rfl) (pe_bm PySem.F.plainAttrs_list PySem.F.slot_list_index PySem.F.type_list_index mt_index (pv 4) (pa_cons (pv 1) pa_nil)))
      (pss_one (ps_ret (pe_tup (pa_cons (pe_callTy call_tuple_of (by rfl) T.tuple boot_tuple (pa_cons (pe_slice sl_list (pv 3) po_none (po_some (pv 5))) pa_nil)) (pa_cons (pe_callTy call_tuple_of (by rfl) T.tuple boot_tuple (pa_cons (pe_slice sl_list (pv 3) (po_some (pv 5)) po_none) pa_nil)) pa_nil)))))))))), ?_⟩
    refine ⟨_, rfl, _, rfl, rfl, _, rfl, ite2 (fun z => ?_) (fun z => ?_)⟩
    · have hnd : n = d := V.int.inj (of_decide_eq_true z)
      refine ⟨by decide, fun t1 nt1 => ?_⟩
      have m1 := Nw.mk1 e nt1 (.tup [])
      refine ⟨_, rfl, _, _, rfl, rfl, (by show 1 ≤ sizeLine; decide), fun t2 nt2 => ?_⟩
      have m2 := Nw.mk1 m1.gh nt2 (.tup [.int (b - 1)])
      refine ⟨(by show 2 ≤ sizeLine; decide), fun q nq => ?_⟩
      have m3 := Nw.mk1 m2.gh nq (.tup [.ref t1, .ref t2])
      exact k1 hnd _ _ _ ((m1.trans m2).trans m3) (.tup upd_same (.cons (dq_mk (l := []) (m3.gg _ _ (m2.gg _ _ upd_same))) (.cons (dq_mk (l := [b - 1]) (m3.gg _ _ upd_same)) .nil)))
    · have hnd : n ≠ d := fun q => z (decide_eq_true (by rw [q]))
      have a := ask hnd
      refine ⟨by decide, fun ld nld => ?_⟩
      refine ⟨by decide, fun lr nlr => ?_⟩
      have pl : ld ≠ lr := ne_of_none upd_same nlr
      have n0 : H lr = none := (Same.upd (o := .lst []) nld).free nlr
      refine ⟨fun μ σ H2 => ∃ i : Nat, μ + i = 1101 ∧ σ = [some (.int b), some (.int (rs b d n i)), some (.int d), some (.ref ld), some (.ref lr), none] ∧ H2 ld = some (.lst ((dl b d n i).map V.int)) ∧ H2 lr = some (.lst ((rl b d n i).map V.int)) ∧
        (∀ x y, x < y → y < i → rs b d n x ≠ rs b d n y) ∧ Same H H2,
        ⟨1101, 0, rfl, rfl, by rw [upd_ne pl]; exact upd_same, upd_same, (fun _ _ _ z => nomatch z), (Same.upd nld).trans (Same.upd nlr)⟩, ?_⟩
      rintro μ σ H2 ⟨i, hμ, rfl, hl, hr2, inj, sm⟩
      have i1 : i ≤ 1000 := soon_le a.soon inj
      refine ⟨_, rfl, _, rfl, lr, _, rfl, .inl (SqL.of hr2), rfl, flat_ints _, _, rfl, ?_⟩
      rw [inV_int]
      by_cases hm : rs b d n i ∈ rl b d n i
      · refine ifF (by rw [decide_eq_true hm]; rfl) ?_
        obtain ⟨k0, hk0, ek⟩ := rl_mem.mp hm
        have dv : Dv b d n i k0 := ⟨hk0, ek.symm, inj⟩
        refine ⟨_, rfl, .inl ⟨rfl, _, SqL.of hr2⟩, _, rfl, lr, _, .int (rs b d n i), k0, .int (rs b d n k0), rfl, rfl, SqL.of hr2, rfl, flat_ints _, (by rw [List.getElem?_map, rl_get hk0]; rfl), (by show (rs b d n k0 == rs b d n i) = true; rw [ek]; exact beq_self_eq_true _), ?_, ?_⟩
        · intro m z' hm' hz'
          rw [List.getElem?_map, rl_get (by omega)] at hz'
          obtain rfl : V.int (rs b d n m) = z' := Option.some.inj hz'
          show (rs b d n m == rs b d n i) = false
          rw [← ek]
          exact beq_eq_false_iff_ne.mpr (inj m k0 hm' hk0)
        · have g2 : Same G H2 := e.trans sm
          refine ⟨_, rfl, _, rfl, (k0 : Int), rfl, ld, _, rfl, SqL.of hl, fun p1 np1 => ?_⟩
          rw [cut_take]
          refine ⟨p1, _, rfl, .inl ⟨SqL.of upd_same, fun t1 nt1 => ?_⟩⟩
          have w1 := Nw.mk1 (g2.trans (Same.upd (o := .lst (((dl b d n i).take k0).map V.int)) np1)) nt1 (.tup (((dl b d n i).take k0).map V.int))
          have hl1 := w1.hh _ _ (Same.upd (o := .lst (((dl b d n i).take k0).map V.int)) np1 _ _ hl)
          refine ⟨_, rfl, _, rfl, (k0 : Int), rfl, ld, _, rfl, SqL.of hl1, fun p2 np2 => ?_⟩
          rw [cut_drop]
          refine ⟨p2, _, rfl, .inl ⟨SqL.of upd_same, fun t2 nt2 => ?_⟩⟩
          have w2 := Nw.mk1 (w1.gh.trans (Same.upd (o := .lst (((dl b d n i).drop k0).map V.int)) np2)) nt2 (.tup (((dl b d n i).drop k0).map V.int))
          refine ⟨(by show 2 ≤ sizeLine; decide), fun q nq => ?_⟩
          have w3 := Nw.mk1 w2.gh nq (.tup [.ref t1, .ref t2])
          refine k2 hnd i k0 dv (.ref q) _ _ ⟨(w1.gg.trans w2.gg).trans w3.gg, w3.gh, ((((sm.trans (Same.upd np1)).trans w1.hh).trans (Same.upd np2)).trans w2.hh).trans w3.hh, ?_⟩ (.tup upd_same (.cons (dq_mk (w3.gg _ _ (w2.gg _ _ upd_same))) (.cons (dq_mk (w3.gg _ _ upd_same)) .nil)))
          intro c hc
          have c2 := keep_ne sm hc
          have c3 := keep_ne (Same.upd (o := .lst (((dl b d n i).take k0).map V.int)) np1) c2
          have c4 := keep_ne w1.hh c3
          have c5 := keep_ne (Same.upd (o := .lst (((dl b d n i).drop k0).map V.int)) np2) c4
          have c6 := keep_ne w2.hh c5
          rw [w3.old c c6, w2.old c c5, w1.old c c3]
      · refine ifT (by rw [decide_eq_false hm]; rfl) ⟨fun σ' H' => ∃ m', m' < μ ∧ ∃ i : Nat, m' + i = 1101 ∧ σ' = [some (.int b), some (.int (rs b d n i)), some (.int d), some (.ref ld), some (.ref lr), none] ∧ H' ld = some (.lst ((dl b d n i).map V.int)) ∧ H' lr = some (.lst ((rl b d n i).map V.int)) ∧
          (∀ x y, x < y → y < i → rs b d n x ≠ rs b d n y) ∧ Same H H', fun σ' H' q => q, ?_⟩
        have new : ∀ j, j < i → rs b d n j ≠ rs b d n i := fun j hj z => hm (rl_mem.mpr ⟨j, hj, z⟩)
        refine ⟨_, rfl, .inl ⟨rfl, _, SqL.of hr2⟩, _, rfl, lr, _, _, rfl, rfl, hr2, (by rw [List.length_map, rl_len, sizeLine_eq]; omega), ?_⟩
        have hl2 : upd H2 lr (.lst ((rl b d n i).map V.int ++ [.int (rs b d n i)])) ld = some (.lst ((dl b d n i).map V.int)) := by rw [upd_ne pl]; exact hl
        refine ⟨_, rfl, .inl ⟨rfl, _, SqL.of hl2⟩, _, rfl, _, rfl, _, _, rfl, rfl, small_base a.b0 a.b1 _, _, rfl, _, _, rfl, rfl, wide_div d0 a.dz (by decide) (by decide), ld, _, _, rfl, rfl, hl2, (by rw [List.length_map, dl_len, sizeLine_eq]; omega), ?_⟩
        refine ⟨_, rfl, _, rfl, _, _, rfl, rfl, small_base a.b0 a.b1 _, _, rfl, _, _, rfl, rfl, d0, ?_⟩
        refine ⟨1101 - (i + 1), by omega, i + 1, by omega, rfl, ?_, ?_, ?_, ?_⟩
        · rw [upd_same, dl_succ, List.map_append]; rfl
        · rw [upd_ne pl.symm, upd_same, rl_succ, List.map_append]; rfl
        · intro x y hxy hy
          rcases Nat.lt_or_ge y i with q | q
          · exact inj x y hxy q
          · have : y = i := by omega
            subst this
            exact new x hxy
        · intro c o hc
          rw [upd_ne (ne_of_none hc nld), upd_ne (ne_of_none hc n0)]
          exact sm c o hc
def spWorth (K : PySem.W.Frag) : Sp := fun vs H Q _ => ∃ (b : Int) (x y : V) (S R : List Int) (G : Hp), vs = [.int b, x, y] ∧ 2 ≤ b ∧ b ≤ 10 ∧ Same G H ∧ Dq K G x (iTup S) ∧ Dq K G y (iTup R) ∧ R ≠ [] ∧ Digs b S ∧ Digs b R ∧ S.length + R.length ≤ 900 ∧
  ∀ (v : V) (G' H' : Hp), Nw G H G' H' → Dq K G' v (frD b S R) → Q v H'
theorem scWorth : FnScope ["base", "stem", "ring", "nines", "scale"] ["base", "stem", "ring"] (defScope sWorth) := ⟨rfl, rfl, rfl, by decide +kernel, rfl, by decide +kernel, by decide +kernel⟩
theorem ok_worth {f fNu fR : Addr} {fd fdNu fdR : FuncData} (F : Fun K "_law_worth" "_law_worth" sWorth f fd) (T : Tx mg) (FNu : Fun K "_law_number" "_law_number" sLNumber fNu fdNu) (bNu : Binds K fdNu ["base", "digits"] []) (gNu : mg "_law_number" = some (.ref fNu))
    (FR : Fun K "_law_reduced" "_law_reduced" sRed fR fdR) (bR : Binds K fdR ["top", "whole"] []) (gR : mg "_law_reduced" = some (.ref fR)) : FnOk P w K mg base CX0 2 f fd ["base", "stem", "ring"] (spWorth K) := by
  have GNu : FnOk P w K mg base CX0 1 fNu fdNu ["base", "digits"] (spLNumber K) := ok_lnumber FNu
  have GR : FnOk P w K mg base CX0 1 fR fdR ["top", "whole"] spRed := ok_red FR
  refine F.ok scWorth (fun vs H Q E h => ?_) (fun cdv A outer s H vs Q E hr h => ?_)
  · obtain ⟨b, x, y, S, R, G, rfl, _⟩ := h
    rfl
  · obtain ⟨b, x, y, S, R, G, rfl, b0, b1, e, dx, dy, hR, dS, dR, hl, k⟩ := h
    have hr1 := hr
    obtain ⟨xa, rfl, hxa⟩ := dq_tup dx
    obtain ⟨ya, rfl, hya⟩ := dq_tup dy
    have r1 : 1 ≤ R.length := by cases R with | nil => exact absurd rfl hR | cons _ _ => simp
    refine ⟨_, (pss_cons (ps_set (i := 3) scWorth.nd rfl (Or.inl rfl) (pe_call GNu hr1 (by rfl) gNu FNu.kp bNu .nil pass0 (pa_cons (pv 0) (pa_cons (pe_op op_mulG (pe_tup (pa_cons (pe_op op_sub (pv 0) pe_int) pa_nil)) (pe_callB call_len_seq (by rfl) T.len PySem.boot_len (pa_cons (pv 2) pa_nil))) pa_nil))))
      (pss_cons (ps_set (i := 4) scWorth.nd rfl (Or.inl rfl) (pe_call GNu hr1 (by rfl) gNu FNu.kp bNu .nil pass0 (pa_cons (pv 0) (pa_cons (pe_op op_catG (pe_tup (pa_cons pe_int pa_nil)) (pe_op op_mulG (pe_tup (pa_cons pe_int pa_nil)) (pe_callB call_len_seq (by rfl) T.len PySem.boot_len (pa_cons (pv 1) pa_nil)))) pa_nil))))
      (pss_one (ps_ret (pe_call GR hr1 (by rfl) gR FR.kp bR .nil pass0 (pa_cons (pe_op op_add (pe_op op_mulW (pe_call GNu hr1 (by rfl) gNu FNu.kp bNu .nil pass0 (pa_cons (pv 0) (pa_cons (pv 1) pa_nil))) (pv 3)) (pe_call GNu hr1 (by rfl) gNu FNu.kp bNu .nil pass0 (pa_cons (pv 0) (pa_cons (pv 2) pa_nil)))) (pa_cons (pe_op op_mulW (pv 4) (pv 3)) pa_nil))))))), ?_⟩
    -- nines
    refine ⟨_, rfl, _, rfl, _, _, rfl, rfl, (by show 1 ≤ sizeLine; decide), fun t1 nt1 => ?_⟩
    have m1 := Nw.mk1 e nt1 (.tup [.int (b - 1)])
    refine ⟨_, rfl, ya, _, rfl, .inr (SqT.of (m1.hh _ _ (e _ _ hya))), _, t1, _, _, rfl, rfl, m1.gh, upd_same, (by simp), (by rw [List.length_map]; omega), (by rw [List.length_map]; omega), (by simp), fun ta G1 H1 m2 hta => ?_⟩
    have m2' := m1.trans m2
    rw [List.length_map, Int.toNat_natCast, rep_flat] at hta
    refine ⟨b, .ref ta, List.replicate R.length (b - 1), G1, rfl, b0, b1, m2.gh, dq_mk hta, ?_⟩
    -- scale
    refine ⟨_, rfl, (by show 1 ≤ sizeLine; decide), fun t2 nt2 => ?_⟩
    have m3 := Nw.mk1 m2.gh nt2 (.tup [.int 1])
    refine ⟨(by show 1 ≤ sizeLine; decide), fun t3 nt3 => ?_⟩
    have m4 := Nw.mk1 m3.gh nt3 (.tup [.int 0])
    have m14 := (m2'.trans m3).trans m4
    refine ⟨_, rfl, xa, _, rfl, .inr (SqT.of (m14.gh _ _ (m14.gg _ _ hxa))), _, t3, _, _, rfl, rfl, m4.gh, upd_same, (by simp), (by rw [List.length_map]; omega), (by rw [List.length_map]; omega), (by simp), fun tb G2 H2 m5 htb => ?_⟩
    rw [List.length_map, Int.toNat_natCast, rep_flat] at htb
    refine ⟨G2, t2, tb, _, _, rfl, rfl, m5.gh, m5.gg _ _ (m4.gg _ _ upd_same), htb, (by rw [List.length_map, List.length_replicate, sizeLine_eq]; simp only [List.length_cons, List.length_nil]; omega), fun tc G3 H3 m6 htc => ?_⟩
    have m16 := (m14.trans m5).trans m6
    refine ⟨b, .ref tc, 1 :: List.replicate S.length 0, G3, rfl, b0, b1, m6.gh, dq_mk htc, ?_⟩
    -- the end
    rw [nb_nines, nb_scale]
    have dx3 := dx.mono m16.gg
    have dy3 := dy.mono m16.gg
    have a1 := nb_lt_2 b0 b1 dS
    have a2 := pow_sub_lt b0 b1 R.length
    have a3 := pow_lt_2 b0 b1 S.length
    refine ⟨_, rfl, _, rfl, b, _, S, G3, rfl, b0, b1, m6.gh, dx3, _, rfl, _, _, rfl, rfl, wide_mul a1 a2 (by omega) (by omega) (by omega), _, rfl, _, rfl, b, _, R, G3, rfl, b0, b1, m6.gh, dy3, _, _, rfl, rfl, _, rfl, _, rfl, _, _, rfl, rfl, wide_mul a3 a2 (by omega) (by omega) (by omega), ?_⟩
    refine ⟨tp b S R, bt b S R, rfl, tp_nn b0 dS dR, bt_pos b0 S hR, bt_lt b0 b1 (by omega), fun q nq => ?_⟩
    exact k _ _ _ (m16.trans (Nw.mk1 m6.gh nq _)) (.tup upd_same (.cons (.int _) (.cons (.int _) .nil)))
end
end My

namespace My
open PySem PySem.Spec PyProof.Rows L2
def less (S : List Int) : List Int := match S.reverse with
  | [] => []
  | z :: r => r.reverse ++ [z - 1]
theorem less_snoc (T : List Int) (z : Int) : less (T ++ [z]) = T ++ [z - 1] := by
  unfold less
  rw [List.reverse_append]
  show T.reverse.reverse ++ [z - 1] = T ++ [z - 1]
  rw [List.reverse_reverse]
def wOf (b : Int) (S R : List Int) : List (List Int × List Int) := if R = [0] ∧ S ≠ [] then [(S, R), (less S, [b - 1])] else [(S, R)]
def pairD (p : List Int × List Int) : PyData := .tuple [iTup p.1, iTup p.2]
def WR (b n d : Int) (W : List (List Int × List Int)) : Prop := (n = d ∧ W = [([], [b - 1])]) ∨ (n ≠ d ∧ ∃ m k, Dv b d n m k ∧ W = wOf b ((dl b d n m).take k) ((dl b d n m).drop k))
theorem WR.uniq {b n d : Int} {W W' : List (List Int × List Int)} (h : WR b n d W) (h' : WR b n d W') : W = W' := by
  rcases h with ⟨e, rfl⟩ | ⟨e, m, k, dv, rfl⟩
  · rcases h' with ⟨_, rfl⟩ | ⟨e', _⟩
    · rfl
    · exact absurd e e'
  · rcases h' with ⟨e', _⟩ | ⟨_, m', k', dv', rfl⟩
    · exact absurd e' e
    · obtain ⟨rfl, rfl⟩ := dv.uniq dv'
      rfl
structure Fra (b n d : Int) : Prop where
  b0 : 2 ≤ b
  b1 : b ≤ 10
  n0 : 0 ≤ n
  nd : n ≤ d
  d0 : 0 < d
  dz : d.natAbs < 2 ^ 8000
  soon : n ≠ d → Soon b d n
  gc : Nat.gcd n.natAbs d.natAbs = 1
theorem Fra.ask {b n d : Int} (h : Fra b n d) (z : n ≠ d) : Asked b d n := ⟨h.b0, h.b1, h.n0, by have := h.nd; omega, h.dz, h.soon z, h.gc⟩
def spWr (K : PySem.W.Frag) : Sp := fun vs H Q _ => ∃ (b n d : Int) (v : V) (G : Hp), vs = [.int b, v] ∧ Same G H ∧ Dq K G v (.tuple [.int n, .int d]) ∧ Fra b n d ∧
  ∀ W, WR b n d W → ∀ (q : Addr) (ws : List V) (G' H' : Hp), Nw G H G' H' → H' q = some (.lst ws) → G' q = none → H q = none → DqAll K G' ws (W.map pairD) → Q (.ref q) H'
theorem dq_pair {K : PySem.W.Frag} {G : Hp} {v : V} {n d : Int} (h : Dq K G v (.tuple [.int n, .int d])) : ∃ a, v = .ref a ∧ G a = some (.tup [.int n, .int d]) := dq_tup (l := [n, d]) h
theorem dq_two {K : PySem.W.Frag} {G : Hp} {v : V} {S R : List Int} (h : Dq K G v (.tuple [iTup S, iTup R])) : ∃ a x y, v = .ref a ∧ G a = some (.tup [.ref x, .ref y]) ∧ G x = some (.tup (S.map V.int)) ∧ G y = some (.tup (R.map V.int)) := by
  cases h with
  | tup hs ha =>
    cases ha with
    | cons h1 h2 =>
      cases h2 with
      | cons h2 h3 =>
        cases h3
        obtain ⟨x, rfl, hx⟩ := dq_tup h1
        obtain ⟨y, rfl, hy⟩ := dq_tup h2
        exact ⟨_, x, y, rfl, hs, hx, hy⟩
section
variable {P : Program} {w : World} {K : PySem.W.Frag} {mg : Str → Option Value} {base : Heap}
theorem atI_snoc (T : List Int) (z : Int) : atI ((T ++ [z]).map V.int) (-1) = some (.int z) := by
  rw [List.map_append]; exact atI_last _ _
theorem cut_last (T : List Int) (z : Int) : cutV ((T ++ [z]).map V.int) none (some (-1)) = T.map V.int := by
  unfold cutV
  have a1 : HT.sIx ((T ++ [z]).map V.int).length 0 none = 0 := rfl
  have a2 : HT.sIx ((T ++ [z]).map V.int).length ((T ++ [z]).map V.int).length (some (-1)) = T.length := by
    unfold HT.sIx
    simp only
    rw [if_pos (by decide), List.length_map, List.length_append, List.length_singleton]
    omega
  rw [a1, a2, List.drop_zero, Nat.sub_zero, List.map_append, List.take_left' (by rw [List.length_map])]
end
end My

namespace My
open PySem PySem.Spec PyProof.Rows L2
abbrev sSame : Stmt := topS 29
theorem walk_zipT {K : PySem.W.Frag} {a b : Addr} {xs ys : List V} {n : Nat} (hn : n = min xs.length ys.length) : Walk (RZ.ItzT K a b) n (fun H => SqT K H a xs ∧ SqT K H b ys) (YPair (fun i => xs[i]?) (fun i => ys[i]?)) := by
  subst hn
  refine ⟨fun i H hi q => ⟨xs, ys, xs[i]'(by omega), ys[i]'(by omega), q.1, q.2, List.getElem?_eq_getElem (by omega), List.getElem?_eq_getElem (by omega)⟩, fun H q => ⟨xs, ys, q.1, q.2, by omega⟩, fun i H v H' hi q y => ?_⟩
  obtain ⟨T, x, z, h1, h2, h3, h4, h5⟩ := y
  exact ⟨T, x, z, h1, h2, h3, h4 xs q.1, h5 ys q.2⟩
def Sh : Nat → PyData → Prop
  | 0, _ => False
  | n + 1, .list ds => ds.length ≤ 5000 ∧ ∀ e ∈ ds, Sh n e
  | n + 1, .tuple ds => ds.length ≤ 5000 ∧ ∀ e ∈ ds, Sh n e
  | _ + 1, .dict _ => False
  | _ + 1, _ => True
def spSame (K : PySem.W.Frag) (n : Nat) : Sp := fun vs H Q _ => ∃ (x y : V) (d : PyData), vs = [x, y] ∧ Dq K H x d ∧ Dq K H y d ∧ Sh n d ∧ ∀ H', Same H H' → Q (.bl true) H'
structure TxS (mg : Str → Option Value) : Prop where
  isi : mg "isinstance" = none
  int : mg "int" = none
  bool : mg "bool" = none
  str : mg "str" = none
  tuple : mg "tuple" = none
  list : mg "list" = none
  len : mg "len" = none
  zip : mg "zip" = none
theorem kit_list : ∀ d : PyData, kitB (tyN d) "list" = some (isT "list" d)
  | .none => by decide +kernel
  | .bool _ => (by decide +kernel : kitB "bool" "list" = some false)
  | .int _ => (by decide +kernel : kitB "int" "list" = some false)
  | .str _ => (by decide +kernel : kitB "str" "list" = some false)
  | .list _ => (by decide +kernel : kitB "list" "list" = some true)
  | .tuple _ => (by decide +kernel : kitB "tuple" "list" = some false)
  | .dict _ => (by decide +kernel : kitB "dict" "list" = some false)
theorem kit_str : ∀ d : PyData, kitB (tyN d) "str" = some (isT "str" d)
  | .none => by decide +kernel
  | .bool _ => (by decide +kernel : kitB "bool" "str" = some false)
  | .int _ => (by decide +kernel : kitB "int" "str" = some false)
  | .str _ => (by decide +kernel : kitB "str" "str" = some true)
  | .list _ => (by decide +kernel : kitB "list" "str" = some false)
  | .tuple _ => (by decide +kernel : kitB "tuple" "str" = some false)
  | .dict _ => (by decide +kernel : kitB "dict" "str" = some false)
/-- int or str -/
theorem kit_two {K : PySem.W.Frag} (d : PyData) : PySem.W.kitAny K (.type (tyN d)) [.type "int", .type "str"] = some ((isT "int" d || isT "bool" d) || isT "str" d) := by
  refine kitAny_cons (kit_ty (kit_int d)) (fun h => ?_) fun h => by rw [h]; rfl
  rw [h, Bool.false_or]
  refine kitAny_cons (kit_ty (kit_str d)) (fun h => ?_) fun h => h
  rw [h]; exact kitAny_nil
section
variable {P : Program} {w : World} {K : PySem.W.Frag} {mg : Str → Option Value} {base : Heap}
theorem scSame : FnScope ["found", "due", "one", "other"] ["found", "due"] (defScope sSame) := ⟨rfl, rfl, rfl, by decide +kernel, rfl, by decide +kernel, by decide +kernel⟩
theorem inV_true (n : Nat) : inV (.bl false) (List.replicate n (.bl true)) = false := by
  unfold inV
  induction n with
  | zero => rfl
  | succ n ih => rw [List.replicate_succ, List.any_cons, ih]; rfl
theorem flat_true (n : Nat) : (List.replicate n (V.bl true)).all flatV = true := by
  induction n with
  | zero => rfl
  | succ n ih => rw [List.replicate_succ, List.all_cons, ih]; rfl
theorem rep_snoc (n : Nat) (x : V) : List.replicate n x ++ [x] = List.replicate (n + 1) x := List.replicate_succ'.symm
theorem ok_same {f : Addr} {fd : FuncData} (F : Fun K "_law_same" "_law_same" sSame f fd) (T : TxS mg) (bS : Binds K fd ["found", "due"] []) (gS : mg "_law_same" = some (.ref f)) : ∀ n, FnOk P w K mg base CX0 n f fd ["found", "due"] (spSame K n)
  | 0 => ⟨fun vs H Q E h => by obtain ⟨_, _, _, _, _, _, z, _⟩ := h; exact z.elim, fun A outer s H args us vs Q E hr he hb hv h => by obtain ⟨_, _, _, _, _, _, z, _⟩ := h; exact z.elim⟩
  | n + 1 => by
    have GS := ok_same F T bS gS n
    refine F.ok scSame (fun vs H Q E h => ?_) (fun cdv A outer s H vs Q E hr h => ?_)
    · obtain ⟨x, y, d, rfl, _⟩ := h
      rfl
    · obtain ⟨x, y, d, rfl, hx, hy, hs, k⟩ := h
      refine ⟨_, (pss_cons (ps_if (PW.pt (pw_or (pt_cmpR op_isN (pv 1) pe_non (nomark _)) (pw_or1 (pt_cmpR op_isN (pv 0) pe_non (nomark _))))) (pss_one (ps_ret (pe_and (pe_cmpR op_isN (pv 1) pe_non (nomark _)) (pe_one (pe_cmpR op_isN (pv 0) pe_non (nomark _)))))) pss_nil)
      (pss_cons (ps_if (PW.pt (pw_or (pt_val (pe_callB call_isi (by rfl) T.isi boot_isinstance (pa_cons (pv 1) (pa_cons (pe_bltn (v := .ty "bool") (by rfl) T.bool boot_bool rfl) pa_nil)))) (pw_or1 (pt_val (pe_callB call_isi (by rfl) T.isi boot_isinstance (pa_cons (pv 0) (pa_cons (pe_bltn (v := .ty "bool") (by rfl) T.bool boot_bool rfl) pa_nil))))))) (pss_one (ps_ret (pe_and (pe_callB call_isi (by rfl) T.isi boot_isinstance (pa_cons (pv 1) (pa_cons (pe_bltn (v := .ty "bool") (by rfl) T.bool boot_bool rfl) pa_nil))) (pe_and (pe_callB call_isi (by rfl) T.isi boot_isinstance (pa_cons (pv 0) (pa_cons (pe_bltn (v := .ty "bool") (by rfl) T.bool boot_bool rfl) pa_nil))) (pe_one (pe_cmpR op_eq (pv 0) (pv 1) (nomark _))))))) pss_nil)
      (pss_cons (ps_if (pt_val (pe_callB call_isiT (by rfl) T.isi boot_isinstance (pa_cons (pv 1) (pa_cons (pe_tup (pa_cons (pe_bltn (v := .ty "int") (by rfl) T.int boot_int rfl) (pa_cons (pe_bltn (v := .ty "str") (by rfl) T.str boot_str rfl) pa_nil))) pa_nil)))) (pss_cons (ps_if (pt_cmpR op_ne (pe_callB call_isi (by rfl) T.isi boot_isinstance (pa_cons (pv 0) (pa_cons (pe_bltn (v := .ty "int") (by rfl) T.int boot_int rfl) pa_nil))) (pe_callB call_isi (by rfl) T.isi boot_isinstance (pa_cons (pv 1) (pa_cons (pe_bltn (v := .ty "int") (by rfl) T.int boot_int rfl) pa_nil))) (nomark _)) (pss_one (ps_ret pe_bl)) pss_nil)
      (pss_one (ps_ret (pe_and (pe_callB call_isiT (by rfl) T.isi boot_isinstance (pa_cons (pv 0) (pa_cons (pe_tup (pa_cons (pe_bltn (v := .ty "int") (by rfl) T.int boot_int rfl) (pa_cons (pe_bltn (v := .ty "str") (by rfl) T.str boot_str rfl) pa_nil))) pa_nil))) (pe_one (pe_cmpR op_eq (pv 0) (pv 1) (nomark _))))))) pss_nil)
      (pss_cons (ps_if (PW.pt (pw_or (pt_cmpR op_ne (pe_callB call_isi (by rfl) T.isi boot_isinstance (pa_cons (pv 1) (pa_cons (pe_bltn (v := .ty "tuple") (by rfl) T.tuple boot_tuple rfl) pa_nil))) (pe_callB call_isi (by rfl) T.isi boot_isinstance (pa_cons (pv 0) (pa_cons (pe_bltn (v := .ty "tuple") (by rfl) T.tuple boot_tuple rfl) pa_nil))) (nomark _)) (pw_or1 (pt_cmpR op_ne (pe_callB call_isi (by rfl) T.isi boot_isinstance (pa_cons (pv 1) (pa_cons (pe_bltn (v := .ty "list") (by rfl) T.list boot_list rfl) pa_nil))) (pe_callB call_isi (by rfl) T.isi boot_isinstance (pa_cons (pv 0) (pa_cons (pe_bltn (v := .ty "list") (by rfl) T.list boot_list rfl) pa_nil))) (nomark _))))) (pss_one (ps_ret pe_bl)) pss_nil)
      (pss_cons (ps_if (pt_cmpR op_ne (pe_callB call_len_seq (by rfl) T.len PySem.boot_len (pa_cons (pv 0) pa_nil)) (pe_callB call_len_seq (by rfl) T.len PySem.boot_len (pa_cons (pv 1) pa_nil)) (nomark _)) (pss_one (ps_ret pe_bl)) pss_nil)
      (pss_one (ps_ret (pe_cmpR op_notIn_seq pe_bl (pe_lc (own := [("one", 2), ("other", 3)]) (g := gTup K 2 (gCons (gName 2) (gCons (gName 3) gNil))) (tt := tYes) rfl scSame.nd (RZ.pi_zipA (by rfl) T.zip (pa_cons (pv 0) (pa_cons (pv 1) pa_nil))) (blkOk_by (N := ["found", "due", "one", "other"]) (sc := defScope sSame) (by decide +kernel)) (fun _ _ _ _ _ => (pg_tup (by rfl) (pgs_cons (pg_name (i := 2) scSame.nd rfl (Or.inl rfl)) (pgs_cons (pg_name (i := 3) scSame.nd rfl (Or.inl rfl)) pgs_nil)))) (fun _ _ _ _ _ => pts_nil) (fun _ _ _ _ _ => (pe_call GS hr (by rfl) gS F.kp bS .nil pass0 (pa_cons (pv 2) (pa_cons (pv 3) pa_nil))))) (by rfl))))))))), ?_⟩
      have e0 := Same.refl H
      -- what both kinds of rows come to
      have seq2 : ∀ (a b : Addr) (xs ys : List V) (ds : List PyData) {H : Hp}, DqAll K H xs ds → DqAll K H ys ds → ds.length ≤ 5000 → (∀ e ∈ ds, Sh n e) → ∀ (J : It) (S : Hp → Prop), (∀ H', Same H H' → S H') → Walk J xs.length S (YPair (fun i => xs[i]?) (fun i => ys[i]?)) → Same H H →
          ∀ (D : Addr), H D = none → ∀ (Qd : Hp → Prop), (∀ H', Same H H' → H' D = some (.lst (List.replicate xs.length (.bl true))) → Qd H') → ∃ W : Nat → Nat → Hp → Prop, (∃ m, W 0 m (upd H D (.lst []))) ∧ ∀ i m H3, W i m H3 → (J.stop i H3 ∧ Qd H3) ∨ (J.go i H3 ∧ ∃ Nx : Hp → Prop, (∀ H', Nx H' → ∃ m', m' < m ∧ W (i + 1) m' H') ∧
            ∀ x H', J.yld i H3 x H' → gTup K 2 (gCons (gName 2) (gCons (gName 3) gNil)) x (wipe [some (.ref a), some (.ref b), none, none] [2, 3]) H' fun σ2 H2 => wipe σ2 [2, 3] = wipe [some (.ref a), some (.ref b), none, none] [2, 3] ∧ tYes σ2 H2 fun c H3 =>
              if c = true then (tCall (spSame K n) [] E0 (tCons (tVar 2) (tCons (tVar 3) tNil))) σ2 H3 fun y H4 => ∃ acc, H4 D = some (.lst acc) ∧ acc.length < sizeLine ∧ Nx (upd H4 D (.lst (acc ++ [y]))) else Nx H3) := by
        intro a b xs ys ds H hxs hys hl hsh J S hS hw _ D nD Qd hQd
        have lx := hxs.len
        have ly := hys.len
        refine lc_it hw (fun i H2 => i ≤ xs.length ∧ Same H H2 ∧ H2 D = some (.lst (List.replicate i (.bl true)))) ⟨Nat.zero_le _, Same.upd nD, upd_same⟩ (fun i H2 _ q => hS H2 q.2.1) ?_ (fun H2 q => hQd H2 q.2.1 q.2.2)
        rintro i v H2 H3 hi ⟨_, s2, hD⟩ ⟨T, x, y, rfl, hT, rfl, ex, ey⟩
        obtain ⟨dx, hdx, qx⟩ := hxs.get ex
        obtain ⟨dy, hdy, qy⟩ := hys.get ey
        obtain rfl : dx = dy := Option.some.inj (hdx.symm.trans hdy)
        have s3 : Same H (upd H2 T (.tup [x, y])) := s2.trans (Same.upd hT)
        refine ⟨T, _, rfl, SqT.of upd_same, rfl, _, _, rfl, _, _, rfl, rfl, rfl, ?_⟩
        unfold tYes
        dsimp only
        rw [if_pos rfl]
        refine ⟨_, rfl, _, rfl, x, y, dx, rfl, qx.mono s3, qy.mono s3, hsh dx (List.mem_of_getElem? hdx), fun H4 s4 => ?_⟩
        have hDT : D ≠ T := ne_of_none hD hT
        have hD4 := s4 _ _ (show upd H2 T (.tup [x, y]) D = _ by rw [upd_ne hDT]; exact hD)
        refine ⟨_, hD4, by rw [List.length_replicate, sizeLine_eq]; omega, hi, fun c o hc => ?_, by rw [upd_same, rep_snoc]⟩
        rw [upd_ne (ne_of_none hc nD)]
        exact s4 c o (s3 c o hc)
      cases d with
      | none =>
        cases hx; cases hy
        exact ⟨_, rfl, rfl, _, rfl, iteT ⟨_, rfl, rfl, _, rfl, iteT ⟨_, rfl, rfl, k H e0⟩⟩⟩
      | bool b =>
        cases hx; cases hy
        refine ⟨_, rfl, rfl, _, rfl, iteF ⟨_, rfl, rfl, _, rfl, iteF ?_⟩⟩
        refine ⟨_, rfl, _, _, _, _, _, rfl, .ty _, (Dq.bl b).ty e0, kit_ty (kit_bool _), _, rfl, iteT ?_⟩
        refine ⟨_, rfl, _, _, _, _, _, rfl, .ty _, (Dq.bl b).ty e0, kit_ty (kit_bool _), _, rfl, iteT ?_⟩
        refine ⟨_, rfl, _, _, _, _, _, rfl, .ty _, (Dq.bl b).ty e0, kit_ty (kit_bool _), _, rfl, iteT ?_⟩
        refine ⟨_, rfl, _, rfl, rfl, ?_⟩
        rw [decide_eq_true rfl]
        exact k H e0
      | int i =>
        cases hx; cases hy
        refine ⟨_, rfl, rfl, _, rfl, iteF ⟨_, rfl, rfl, _, rfl, iteF ?_⟩⟩
        refine ⟨_, rfl, _, _, _, _, _, rfl, .ty _, (Dq.int i).ty e0, kit_ty (kit_bool _), _, rfl, iteF ⟨_, rfl, _, _, _, _, _, rfl, .ty _, (Dq.int i).ty e0, kit_ty (kit_bool _), _, rfl, iteF ?_⟩⟩
        refine ⟨_, rfl, (by show 2 ≤ sizeLine; decide), fun t1 nt1 => ⟨_, t1, _, _, _, _, rfl, upd_same, .cons (.ty _) (.cons (.ty _) .nil), (Dq.int i).ty (Same.upd nt1), kit_two _, _, rfl, iteT ?_⟩⟩
        have s1 : Same H (upd H t1 (.tup [.ty "int", .ty "str"])) := Same.upd nt1
        refine ⟨_, rfl, _, _, _, _, _, rfl, .ty _, (Dq.int i).ty s1, kit_ty (kit_int _), _, rfl, _, _, _, _, _, rfl, .ty _, (Dq.int i).ty s1, kit_ty (kit_int _), rfl, _, rfl, iteNS rfl ?_⟩
        refine ⟨_, rfl, (by show 2 ≤ sizeLine; decide), fun t2 nt2 => ⟨_, t2, _, _, _, _, rfl, upd_same, .cons (.ty _) (.cons (.ty _) .nil), (Dq.int i).ty (s1.trans (Same.upd nt2)), kit_two _, _, rfl, iteT ?_⟩⟩
        refine ⟨_, rfl, _, rfl, rfl, ?_⟩
        rw [decide_eq_true rfl]
        exact k _ (s1.trans (Same.upd nt2))
      | str x =>
        cases hx; cases hy
        refine ⟨_, rfl, rfl, _, rfl, iteF ⟨_, rfl, rfl, _, rfl, iteF ?_⟩⟩
        refine ⟨_, rfl, _, _, _, _, _, rfl, .ty _, (Dq.str x).ty e0, kit_ty (kit_bool _), _, rfl, iteF ⟨_, rfl, _, _, _, _, _, rfl, .ty _, (Dq.str x).ty e0, kit_ty (kit_bool _), _, rfl, iteF ?_⟩⟩
        refine ⟨_, rfl, (by show 2 ≤ sizeLine; decide), fun t1 nt1 => ⟨_, t1, _, _, _, _, rfl, upd_same, .cons (.ty _) (.cons (.ty _) .nil), (Dq.str x).ty (Same.upd nt1), kit_two _, _, rfl, iteT ?_⟩⟩
        have s1 : Same H (upd H t1 (.tup [.ty "int", .ty "str"])) := Same.upd nt1
        refine ⟨_, rfl, _, _, _, _, _, rfl, .ty _, (Dq.str x).ty s1, kit_ty (kit_int _), _, rfl, _, _, _, _, _, rfl, .ty _, (Dq.str x).ty s1, kit_ty (kit_int _), rfl, _, rfl, iteNS rfl ?_⟩
        refine ⟨_, rfl, (by show 2 ≤ sizeLine; decide), fun t2 nt2 => ⟨_, t2, _, _, _, _, rfl, upd_same, .cons (.ty _) (.cons (.ty _) .nil), (Dq.str x).ty (s1.trans (Same.upd nt2)), kit_two _, _, rfl, iteT ?_⟩⟩
        refine ⟨_, rfl, _, rfl, rfl, ?_⟩
        rw [decide_eq_true rfl]
        exact k _ (s1.trans (Same.upd nt2))
      | dict ds => exact hs.elim
      | list ds =>
        have hx0 := hx
        have hy0 := hy
        cases hx with
        | lst hxs hxa =>
        cases hy with
        | lst hys hya =>
        rename_i a xs b ys
        refine ⟨_, rfl, rfl, _, rfl, iteF ⟨_, rfl, rfl, _, rfl, iteF ?_⟩⟩
        refine ⟨_, rfl, _, _, _, _, _, rfl, .ty _, hy0.ty e0, kit_ty (kit_bool _), _, rfl, iteF ⟨_, rfl, _, _, _, _, _, rfl, .ty _, hx0.ty e0, kit_ty (kit_bool _), _, rfl, iteF ?_⟩⟩
        refine ⟨_, rfl, (by show 2 ≤ sizeLine; decide), fun t1 nt1 => ⟨_, t1, _, _, _, _, rfl, upd_same, .cons (.ty _) (.cons (.ty _) .nil), hy0.ty (Same.upd nt1), kit_two _, _, rfl, iteF ?_⟩⟩
        have s1 : Same H (upd H t1 (.tup [.ty "int", .ty "str"])) := Same.upd nt1
        refine ⟨_, rfl, _, _, _, _, _, rfl, .ty _, hy0.ty s1, kit_ty (kit_tuple _), _, rfl, _, _, _, _, _, rfl, .ty _, hx0.ty s1, kit_ty (kit_tuple _), rfl, _, rfl, iteNS rfl ?_⟩
        refine ⟨_, rfl, _, _, _, _, _, rfl, .ty _, hy0.ty s1, kit_ty (kit_list _), _, rfl, _, _, _, _, _, rfl, .ty _, hx0.ty s1, kit_ty (kit_list _), rfl, _, rfl, iteNS rfl ?_⟩
        have lx := hxa.len
        have ly := hya.len
        refine ⟨_, rfl, a, xs, rfl, .inl (SqL.of (s1 _ _ hxs)), _, rfl, b, ys, rfl, .inl (SqL.of (s1 _ _ hys)), rfl, _, rfl, ifF (by rw [lx, ly]; simp) ?_⟩
        refine ⟨_, rfl, _, rfl, a, b, xs, ys, rfl, .inl ⟨SqL.of (s1 _ _ hxs), SqL.of (s1 _ _ hys), fun D nD => ?_⟩⟩
        obtain ⟨W, w0, ws⟩ := seq2 a b xs ys ds (hxa.mono s1) (hya.mono s1) hs.1 hs.2 (Itz K a b) (fun H' => SqL K H' a xs ∧ SqL K H' b ys) (fun H' s' => ⟨SqL.of (s' _ _ (s1 _ _ hxs)), SqL.of (s' _ _ (s1 _ _ hys))⟩) (walk_zip (by rw [lx, ly]; simp)) (Same.refl _) D nD
          (fun H' => ∃ p zs, V.ref D = .ref p ∧ (SqL K H' p zs ∨ SqT K H' p zs) ∧ flatV (.bl false) = true ∧ zs.all flatV = true ∧ Q (.bl (!inV (.bl false) zs)) H') (fun H' s' hD => ⟨D, _, rfl, .inl (SqL.of hD), rfl, flat_true _, by rw [inV_true]; exact k H' (s1.trans s')⟩)
        exact ⟨W, w0, ws⟩
      | tuple ds =>
        have hx0 := hx
        have hy0 := hy
        cases hx with
        | tup hxs hxa =>
        cases hy with
        | tup hys hya =>
        rename_i a xs b ys
        refine ⟨_, rfl, rfl, _, rfl, iteF ⟨_, rfl, rfl, _, rfl, iteF ?_⟩⟩
        refine ⟨_, rfl, _, _, _, _, _, rfl, .ty _, hy0.ty e0, kit_ty (kit_bool _), _, rfl, iteF ⟨_, rfl, _, _, _, _, _, rfl, .ty _, hx0.ty e0, kit_ty (kit_bool _), _, rfl, iteF ?_⟩⟩
        refine ⟨_, rfl, (by show 2 ≤ sizeLine; decide), fun t1 nt1 => ⟨_, t1, _, _, _, _, rfl, upd_same, .cons (.ty _) (.cons (.ty _) .nil), hy0.ty (Same.upd nt1), kit_two _, _, rfl, iteF ?_⟩⟩
        have s1 : Same H (upd H t1 (.tup [.ty "int", .ty "str"])) := Same.upd nt1
        refine ⟨_, rfl, _, _, _, _, _, rfl, .ty _, hy0.ty s1, kit_ty (kit_tuple _), _, rfl, _, _, _, _, _, rfl, .ty _, hx0.ty s1, kit_ty (kit_tuple _), rfl, _, rfl, iteNS rfl ?_⟩
        refine ⟨_, rfl, _, _, _, _, _, rfl, .ty _, hy0.ty s1, kit_ty (kit_list _), _, rfl, _, _, _, _, _, rfl, .ty _, hx0.ty s1, kit_ty (kit_list _), rfl, _, rfl, iteNS rfl ?_⟩
        have lx := hxa.len
        have ly := hya.len
        refine ⟨_, rfl, a, xs, rfl, .inr (SqT.of (s1 _ _ hxs)), _, rfl, b, ys, rfl, .inr (SqT.of (s1 _ _ hys)), rfl, _, rfl, ifF (by rw [lx, ly]; simp) ?_⟩
        refine ⟨_, rfl, _, rfl, a, b, xs, ys, rfl, .inr ⟨SqT.of (s1 _ _ hxs), SqT.of (s1 _ _ hys), fun D nD => ?_⟩⟩
        obtain ⟨W, w0, ws⟩ := seq2 a b xs ys ds (hxa.mono s1) (hya.mono s1) hs.1 hs.2 (RZ.ItzT K a b) (fun H' => SqT K H' a xs ∧ SqT K H' b ys) (fun H' s' => ⟨SqT.of (s' _ _ (s1 _ _ hxs)), SqT.of (s' _ _ (s1 _ _ hys))⟩) (walk_zipT (by rw [lx, ly]; simp)) (Same.refl _) D nD
          (fun H' => ∃ p zs, V.ref D = .ref p ∧ (SqL K H' p zs ∨ SqT K H' p zs) ∧ flatV (.bl false) = true ∧ zs.all flatV = true ∧ Q (.bl (!inV (.bl false) zs)) H') (fun H' s' hD => ⟨D, _, rfl, .inl (SqL.of hD), rfl, flat_true _, by rw [inV_true]; exact k H' (s1.trans s')⟩)
        exact ⟨W, w0, ws⟩
end
end My

namespace My
open PySem PySem.Spec PyProof.Rows L2
section
variable {P : Program} {w : World} {K : PySem.W.Frag} {mg : Str → Option Value} {base : Heap}
theorem scLWritings : FnScope ["base", "fraction", "stem", "ring"] ["base", "fraction"] (defScope sLWritings) := ⟨rfl, rfl, rfl, by decide +kernel, rfl, by decide +kernel, by decide +kernel⟩
theorem ok_lwritings {f fLd : Addr} {fd fdLd : FuncData} (F : Fun K "_law_writings" "_law_writings" sLWritings f fd) (T : Tx mg) (FLd : Fun K "_law_divided" "_law_divided" sLDivided fLd fdLd) (bLd : Binds K fdLd ["base", "top", "whole"] []) (gLd : mg "_law_divided" = some (.ref fLd)) :
    FnOk P w K mg base CX0 2 f fd ["base", "fraction"] (spWr K) := by
  have GLd : FnOk P w K mg base CX0 1 fLd fdLd ["base", "top", "whole"] (spLDivided K) := ok_ldivided FLd T
  refine F.ok scLWritings (fun vs H Q E h => ?_) (fun cdv A outer s H vs Q E hr h => ?_)
  · obtain ⟨b, n, d, v, G, rfl, _⟩ := h
    rfl
  · obtain ⟨b, n, d, v, G, rfl, e, dv, fr, k⟩ := h
    have hr1 := hr
    obtain ⟨a, rfl, ha⟩ := dq_pair dv
    refine ⟨_, (C8.pss_cut (ps_asg (pe_call GLd hr1 (by rfl) gLd FLd.kp bLd .nil pass0 (pa_cons (pv 0) (pa_cons (pe_ix ix_tup (pv 1) pe_int (fun _ _ => rfl)) (pa_cons (pe_ix ix_tup (pv 1) pe_int (fun _ _ => rfl)) pa_nil)))) (pg_tup (by rfl) (pgs_cons (pg_name (i := 2) scLWritings.nd rfl (Or.inl rfl)) (pgs_cons (pg_name (i := 3) scLWritings.nd rfl (Or.inl rfl)) pgs_nil))))
      (pss_cons (ps_if (PW.pt (pw_or (pt_cmpR (op_neD hr.units) (pv 3) (pe_tup (pa_cons pe_int pa_nil)) (nomark _)) (pw_or1 (pt_cmpR (op_eqD hr.units) (pv 2) (pe_tup pa_nil) (nomark _))))) (pss_one (ps_ret (pe_lst (pa_cons (pe_tup (pa_cons (pv 2) (pa_cons (pv 3) pa_nil))) pa_nil)))) pss_nil)
      (pss_one (ps_ret (pe_lst (pa_cons (pe_tup (pa_cons (pv 2) (pa_cons (pv 3) pa_nil))) (pa_cons (pe_tup (pa_cons (pe_op op_catG (pe_slice sl_tupG (pv 2) po_none (po_some (pe_un un_neg pe_int))) (pe_tup (pa_cons (pe_op op_sub (pe_ix ix_tup (pv 2) (pe_un un_neg pe_int) (fun _ _ => rfl)) pe_int) pa_nil))) (pa_cons (pe_tup (pa_cons (pe_op op_sub (pv 0) pe_int) pa_nil)) pa_nil))) pa_nil))))))), ?_⟩
    have hA : SqT K H a [.int n, .int d] := SqT.of (e _ _ ha)
    refine ⟨fun σ H' => ∃ (S R : List Int) (x y : Addr) (G1 : Hp), σ = [some (.int b), some (.ref a), some (.ref x), some (.ref y)] ∧ Nw G H G1 H' ∧ G1 x = some (.tup (S.map V.int)) ∧ G1 y = some (.tup (R.map V.int)) ∧ S.length ≤ 1100 ∧ WR b n d (wOf b S R), ?_, ?_⟩
    · refine ⟨_, rfl, _, rfl, a, _, 0, .int n, rfl, rfl, hA, atI_nat (j := 0) rfl, _, rfl, a, _, 1, .int d, rfl, rfl, hA, atI_nat (j := 1) rfl, ?_⟩
      refine ⟨b, n, d, G, rfl, fr.d0, fun z => fr.ask z, e, fun z v1 G1 H1 m1 d1 => ?_, fun z m0 k0 hd v1 G1 H1 m1 d1 => ?_⟩
      all_goals
        obtain ⟨pa, x, y, rfl, hpa, hx, hy⟩ := dq_two d1
        refine ⟨pa, _, rfl, SqT.of (m1.gh _ _ hpa), rfl, _, _, rfl, _, _, rfl, rfl, _, _, x, y, G1, rfl, m1, hx, hy, ?_, ?_⟩
      · simp
      · refine .inl ⟨z, ?_⟩
        unfold wOf
        rw [if_neg (fun q => q.2 rfl)]
      · have h3 : m0 ≤ 1000 := soon_le (fr.soon z) hd.inj
        rw [List.length_take, dl_len]; omega
      · exact .inr ⟨z, m0, k0, hd, rfl⟩
    · rintro σ H1 ⟨S, R, x, y, G1, rfl, m1, hx, hy, hSl, hW⟩
      refine ⟨_, rfl, (by show 1 ≤ sizeLine; decide), fun t0 nt0 => ?_⟩
      have m2 := Nw.mk1 m1.gh nt0 (.tup [.int 0])
      have m12 := m1.trans m2
      refine ⟨iTup R, iTup [0], dp_ints (m2.gh _ _ (m2.gg _ _ hy)), dp_ints (l := [0]) upd_same, shaped_iTup _, shaped_iTup _, _, rfl, ?_⟩
      rw [eqv_iTup]
      have one : ∀ (G2 H2 : Hp), Nw G H G2 H2 → G2 x = some (.tup (S.map V.int)) → G2 y = some (.tup (R.map V.int)) → wOf b S R = [(S, R)] → ∀ t3, H2 t3 = none → ∀ q, (upd H2 t3 (.tup [.ref x, .ref y])) q = none → Q (.ref q) (upd (upd H2 t3 (.tup [.ref x, .ref y])) q (.lst [.ref t3])) := by
        intro G2 H2 n2 hx2 hy2 hw t3 nt3 q nq
        have m3 := n2.trans (Nw.mk1 n2.gh nt3 (.tup [.ref x, .ref y]))
        have m4 := lst_new m3 nq (.lst [.ref t3])
        have gg3 := (Nw.mk1 n2.gh nt3 (.tup [.ref x, .ref y])).gg
        rw [hw] at hW
        exact k [(S, R)] hW q _ _ _ m4 upd_same (m3.gh.free nq) (m3.hh.free nq) (.cons (.tup upd_same (.cons (dq_mk (gg3 _ _ hx2)) (.cons (dq_mk (gg3 _ _ hy2)) .nil))) .nil)
      by_cases hR0 : R = [0]
      · refine ifF (by rw [decide_eq_true hR0]; rfl) ?_
        refine ⟨_, rfl, (by decide), fun tz ntz => ?_⟩
        have m3 := Nw.mk1 m2.gh ntz (.tup [])
        have m13 := m12.trans m3
        refine ⟨iTup S, iTup [], dp_ints (m3.gh _ _ (m3.gg _ _ (m2.gg _ _ hx))), dp_ints (l := []) upd_same, shaped_iTup _, shaped_iTup _, _, rfl, ?_⟩
        rw [eqv_iTup]
        rcases List.eq_nil_or_concat S with hS0 | ⟨T', z', hST⟩
        · refine ifT (by rw [hS0]; rfl) ⟨_, rfl, _, rfl, (by show 2 ≤ sizeLine; decide), fun t3 nt3 => ⟨(by show 1 ≤ sizeLine; decide), fun q nq => ?_⟩⟩
          exact one _ _ m13 (m3.gg _ _ (m2.gg _ _ hx)) (m3.gg _ _ (m2.gg _ _ hy)) (by unfold wOf; rw [if_neg (fun z => z.2 hS0)]) t3 nt3 q nq
        · rw [List.concat_eq_append] at hST
          have hx' := hx
          rw [hST] at hx'
          refine ifF (by rw [hST]; simp) ?_
          refine ⟨_, rfl, _, rfl, (by show 2 ≤ sizeLine; decide), fun t5 nt5 => ?_⟩
          have m4 := Nw.mk1 m3.gh nt5 (.tup [.ref x, .ref y])
          have m14 := m13.trans m4
          have hx4 := m4.gg _ _ (m3.gg _ _ (m2.gg _ _ hx'))
          refine ⟨_, rfl, _, rfl, -1, rfl, _, x, _, rfl, m4.gh, hx4, fun c G3 H3 m5 hc => ?_⟩
          rw [cut_last] at hc
          have hx5 := m5.gg _ _ hx4
          refine ⟨_, rfl, _, rfl, x, _, -1, .int z', rfl, rfl, SqT.of (m5.gh _ _ hx5), atI_snoc T' z', _, _, rfl, rfl, (by show 1 ≤ sizeLine; decide), fun t4 nt4 => ?_⟩
          have m6 := Nw.mk1 m5.gh nt4 (.tup [.int (z' - 1)])
          refine ⟨_, c, t4, _, _, rfl, rfl, m6.gh, m6.gg _ _ hc, upd_same, ?_, fun u G5 H5 m7 hu => ?_⟩
          · rw [hST, List.length_append] at hSl
            rw [List.length_map, sizeLine_eq]
            simp only [List.length_cons, List.length_nil] at hSl ⊢
            omega
          have hu' : G5 u = some (.tup ((less S).map V.int)) := by
            rw [hST, less_snoc, List.map_append]; exact hu
          have m17 := ((m14.trans m5).trans m6).trans m7
          refine ⟨_, rfl, _, _, rfl, rfl, (by show 1 ≤ sizeLine; decide), fun t6 nt6 => ?_⟩
          have m8 := Nw.mk1 m7.gh nt6 (.tup [.int (b - 1)])
          refine ⟨(by show 2 ≤ sizeLine; decide), fun t7 nt7 => ?_⟩
          have m9 := Nw.mk1 m8.gh nt7 (.tup [.ref u, .ref t6])
          refine ⟨(by show 2 ≤ sizeLine; decide), fun q nq => ?_⟩
          have m19 := (m17.trans m8).trans m9
          have m20 := lst_new m19 nq (.lst [.ref t5, .ref t7])
          have g49 := (((m5.gg.trans m6.gg).trans m7.gg).trans m8.gg).trans m9.gg
          have hxS : (upd G3 t4 (.tup [.int (z' - 1)])) x = some (.tup (S.map V.int)) := by rw [hST]; exact m6.gg _ _ hx5
          have g69 := (m7.gg.trans m8.gg).trans m9.gg
          have hw : wOf b S R = [(S, R), (less S, [b - 1])] := by unfold wOf; rw [if_pos ⟨hR0, by rw [hST]; simp⟩]
          rw [hw] at hW
          exact k _ hW q _ _ _ m20 upd_same (m19.gh.free nq) (m19.hh.free nq) (.cons (.tup (g49 _ _ upd_same) (.cons (dq_mk (g69 _ _ hxS)) (.cons (dq_mk (g49 _ _ (m4.gg _ _ (m3.gg _ _ (m2.gg _ _ hy))))) .nil)))
            (.cons (.tup upd_same (.cons (dq_mk (m9.gg _ _ (m8.gg _ _ hu'))) (.cons (dq_mk (l := [b - 1]) (m9.gg _ _ upd_same)) .nil))) .nil))
      · refine ifT (by rw [decide_eq_false hR0]; rfl) ⟨_, rfl, _, rfl, (by show 2 ≤ sizeLine; decide), fun t3 nt3 => ⟨(by show 1 ≤ sizeLine; decide), fun q nq => ?_⟩⟩
        exact one _ _ m12 (m2.gg _ _ hx) (m2.gg _ _ hy) (by unfold wOf; rw [if_neg (fun z => hR0 z.1)]) t3 nt3 q nq
end
end My

namespace My
open PySem PySem.Spec PyProof.Rows L2
/-! ### a fraction is told again by its writings -/
structure Good (b n d : Int) (p : List Int × List Int) : Prop where
  ne : p.2 ≠ []
  dS : Digs b p.1
  dR : Digs b p.2
  ln : p.1.length + p.2.length ≤ 1000
  fr : frD b p.1 p.2 = .tuple [.int n, .int d]
theorem fr_of {b n d : Int} {S R : List Int} (h : n * bt b S R = d * tp b S R) (n0 : 0 ≤ n) (d0 : 0 < d) (b0 : 2 ≤ b) (hR : R ≠ []) (g : Nat.gcd n.natAbs d.natAbs = 1) : frD b S R = .tuple [.int n, .int d] := by
  obtain ⟨e1, e2⟩ := low_int h n0 d0 (bt_pos b0 S hR) g
  unfold frD
  rw [e1, e2]
theorem last_digit {b n d : Int} {m k : Nat} (h : Dv b d n m k) (d0 : 0 < d) (n0 : 0 ≤ n) (nd : n < d) (b0 : 2 ≤ b) (hR : (dl b d n m).drop k = [0]) {T : List Int} {z : Int} (hS : (dl b d n m).take k = T ++ [z]) : 1 ≤ z := by
  have lm : m = k + 1 := by
    have := congrArg List.length hR
    rw [List.length_drop, dl_len, List.length_singleton] at this
    have := h.lt
    omega
  subst lm
  have e0 : dg b d n k = 0 := by
    have : (dl b d n (k + 1)).drop k = [dg b d n k] := by
      rw [dl_succ, List.drop_left' (dl_len b d n k)]
    rw [this] at hR
    exact (List.cons.inj hR).1
  have ek : (dl b d n (k + 1)).take k = dl b d n k := by rw [dl_succ, List.take_left' (dl_len b d n k)]
  rw [ek] at hS
  obtain ⟨j, rfl⟩ : ∃ j, k = j + 1 := by
    cases k with
    | zero =>
      have := congrArg List.length hS
      rw [dl_len, List.length_append, List.length_singleton] at this
      omega
    | succ j => exact ⟨j, rfl⟩
  rw [dl_succ] at hS
  have ez : dg b d n j = z := by
    have := List.append_inj_right' hS rfl
    exact (List.cons.inj this).1
  have r0 := rs_rng (b := b) d0 n0 nd (j + 1)
  have hk : rs b d n (j + 1) * b = d * dg b d n (j + 1) + rs b d n (j + 1 + 1) := (Int.mul_ediv_add_emod _ _).symm
  have z1 : rs b d n (j + 1) = 0 := by
    rw [e0, h.back] at hk
    rcases Int.lt_or_le 0 (rs b d n (j + 1)) with q | q
    · have : rs b d n (j + 1) * 2 ≤ rs b d n (j + 1) * b := Int.mul_le_mul_of_nonneg_left b0 (by omega)
      omega
    · omega
  obtain ⟨g0, g1⟩ := dg_rng d0 n0 nd (by omega : 0 < b) j
  rcases Int.lt_or_le z 1 with q | q
  · exfalso
    have hj : rs b d n j * b = d * dg b d n j + rs b d n (j + 1) := (Int.mul_ediv_add_emod _ _).symm
    have dz : dg b d n j = 0 := by omega
    rw [dz, z1] at hj
    have rj := rs_rng (b := b) d0 n0 nd j
    have rj0 : rs b d n j = 0 := by
      rcases Int.lt_or_le 0 (rs b d n j) with q2 | q2
      · have : rs b d n j * 2 ≤ rs b d n j * b := Int.mul_le_mul_of_nonneg_left b0 (by omega)
        omega
      · omega
    exact h.inj j (j + 1) (by omega) (by omega) (by rw [rj0, z1])
  · exact q
theorem wr_good {b n d : Int} {W : List (List Int × List Int)} (h : WR b n d W) (f : Fra b n d) (g : Nat.gcd n.natAbs d.natAbs = 1) : (∀ p ∈ W, Good b n d p) ∧ W.length ≤ 2 := by
  have b0 := f.b0
  have dig1 : Digs b [b - 1] := fun x hx => by rw [List.mem_singleton.mp hx]; omega
  rcases h with ⟨e, rfl⟩ | ⟨e, m, k, dv, rfl⟩
  · refine ⟨fun p hp => ?_, by simp⟩
    rw [List.mem_singleton.mp hp]
    refine ⟨by simp, (fun x hx => nomatch hx), dig1, by simp, fr_of ?_ f.n0 f.d0 f.b0 (by simp) g⟩
    subst e
    simp [bt, tp, nb, Int.pow_one]
  · have nd : n < d := by have := f.nd; omega
    have m1 : m ≤ 1000 := soon_le (f.soon e) dv.inj
    obtain ⟨S, hS⟩ : ∃ S, (dl b d n m).take k = S := ⟨_, rfl⟩
    obtain ⟨R, hR⟩ : ∃ R, (dl b d n m).drop k = R := ⟨_, rfl⟩
    have dall := dl_rng f.d0 f.n0 nd (by omega : 0 < b) m
    have dS : Digs b S := fun x hx => dall x (List.mem_of_mem_take (by rw [hS]; exact hx))
    have dR : Digs b R := fun x hx => dall x (List.mem_of_mem_drop (by rw [hR]; exact hx))
    have lS : S.length ≤ k := by rw [← hS, List.length_take]; omega
    have lR : R.length = m - k := by rw [← hR, List.length_drop, dl_len]
    have kl := dv.lt
    have hRn : R ≠ [] := fun z => by rw [z] at lR; simp at lR; omega
    have eq := dv_eq dv
    rw [hS, hR] at eq
    rw [hS, hR]
    have first : Good b n d (S, R) := ⟨hRn, dS, dR, by show S.length + R.length ≤ 1000; omega, fr_of eq f.n0 f.d0 f.b0 hRn g⟩
    unfold wOf
    by_cases c : R = [0] ∧ S ≠ []
    · rw [if_pos c]
      refine ⟨fun p hp => ?_, by simp⟩
      rcases List.mem_cons.mp hp with rfl | hp
      · exact first
      · rw [List.mem_singleton.mp hp]
        obtain ⟨hR0, hSn⟩ := c
        rcases List.eq_nil_or_concat S with hS0 | ⟨T, z, hST⟩
        · exact absurd hS0 hSn
        · rw [List.concat_eq_append] at hST
          have z1 := last_digit dv f.d0 f.n0 nd f.b0 (by rw [hR]; exact hR0) (by rw [hS]; exact hST)
          have zb := dS z (by rw [hST]; simp)
          have el : less S = T ++ [z - 1] := by rw [hST, less_snoc]
          refine ⟨by simp, ?_, dig1, ?_, fr_of ?_ f.n0 f.d0 f.b0 (by simp) g⟩
          · show Digs b (less S)
            rw [el]
            intro x hx
            rcases List.mem_append.mp hx with hx | hx
            · exact dS x (by rw [hST]; exact List.mem_append_left _ hx)
            · rw [List.mem_singleton.mp hx]; omega
          · show (less S).length + 1 ≤ 1000
            rw [el, List.length_append, List.length_singleton]
            rw [hST, List.length_append, List.length_singleton] at lS
            omega
          · show n * bt b (less S) [b - 1] = d * tp b (less S) [b - 1]
            rw [hR0] at eq
            have l2 : (less S).length = S.length := by rw [el, hST]; simp
            have e1 : bt b (less S) [b - 1] = bt b S [0] := by unfold bt; rw [l2]; rfl
            have e2 : tp b (less S) [b - 1] = tp b S [0] := by
              unfold tp
              have h1 : nb b S = nb b T * b + z := by rw [hST, nb_snoc]
              have h2 : nb b (less S) = nb b S - 1 := by rw [el, nb_snoc, h1]; omega
              have h3 : nb b [b - 1] = b - 1 := by simp [nb]
              have h4 : nb b [0] = 0 := by simp [nb]
              rw [h2, h3, h4]
              show (nb b S - 1) * (b ^ 1 - 1) + (b - 1) = nb b S * (b ^ 1 - 1) + 0
              rw [Int.pow_one, Int.sub_mul]
              omega
            rw [e1, e2]; exact eq
    · rw [if_neg c]
      exact ⟨fun p hp => by rw [List.mem_singleton.mp hp]; exact first, by simp⟩
theorem sh_ints {l : List Int} (h : l.length ≤ 5000) (n : Nat) : Sh (n + 2) (iTup l) := by
  refine ⟨by rw [List.length_map]; exact h, fun e he => ?_⟩
  obtain ⟨x, _, rfl⟩ := List.mem_map.mp he
  exact trivial
theorem sh_W {b n d : Int} {W : List (List Int × List Int)} (h : ∀ p ∈ W, Good b n d p) (hl : W.length ≤ 2) : Sh 4 (.list (W.map pairD)) := by
  refine ⟨by rw [List.length_map]; omega, fun e he => ?_⟩
  obtain ⟨p, hp, rfl⟩ := List.mem_map.mp he
  have := (h p hp).ln
  refine ⟨by simp, fun e he => ?_⟩
  simp only [List.mem_cons, List.not_mem_nil, or_false] at he
  rcases he with rfl | rfl
  · exact sh_ints (by omega) 0
  · exact sh_ints (by omega) 0
end My

namespace My
open PySem PySem.Spec PyProof.Rows L2
abbrev sLFraction : Stmt := topS 34
/-! ### when a rest comes again -/
theorem pigeon : ∀ (n : Nat) (l : List Nat), l.Nodup → (∀ x ∈ l, x < n) → l.length ≤ n
  | 0, l, _, h => by
    cases l with
    | nil => simp
    | cons x r => exact absurd (h x List.mem_cons_self) (Nat.not_lt_zero _)
  | n + 1, l, hn, h => by
    have ih := pigeon n (l.erase n) (hn.erase n) fun x hx => by
      obtain ⟨h1, h2⟩ := (List.Nodup.mem_erase_iff hn).mp hx
      have := h x h2
      omega
    by_cases hm : n ∈ l
    · rw [List.length_erase_of_mem hm] at ih
      omega
    · rw [List.erase_of_not_mem hm] at ih
      omega
theorem soon_small {b d n : Int} (d0 : 0 < d) (d1 : d ≤ 1000) (n0 : 0 ≤ n) (nd : n < d) : Soon b d n := by
  refine Classical.byContradiction fun hno => ?_
  have inj : ∀ i j, i < j → j ≤ 1000 → rs b d n i ≠ rs b d n j := fun i j h1 h2 z => hno ⟨i, j, h1, h2, z⟩
  have nod : ((List.range 1001).map fun i => (rs b d n i).toNat).Nodup := by
    refine List.pairwise_map.mpr (List.Pairwise.imp_of_mem (R := (· < ·)) (fun {i j} hi hj hlt z => ?_) List.pairwise_lt_range)
    have h1 := List.mem_range.mp hj
    have r1 := rs_rng (b := b) d0 n0 nd i
    have r2 := rs_rng (b := b) d0 n0 nd j
    exact inj i j hlt (by omega) (by omega)
  have := pigeon d.toNat _ nod fun x hx => by
    obtain ⟨i, _, rfl⟩ := List.mem_map.mp hx
    have r1 := rs_rng (b := b) d0 n0 nd i
    omega
  rw [List.length_map, List.length_range] at this
  omega
theorem rs_pow {b d n : Int} (n0 : 0 ≤ n) (nd : n < d) : ∀ i, rs b d n i = n * b ^ i % d
  | 0 => by simp only [rs, Int.pow_zero, Int.mul_one]; exact (Int.emod_eq_of_lt n0 nd).symm
  | i + 1 => by
    show rs b d n i * b % d = _
    rw [rs_pow n0 nd i, Int.pow_succ, ← Int.mul_assoc, Int.mul_emod, Int.emod_emod_of_dvd _ (Int.dvd_refl d), ← Int.mul_emod]
theorem soon_dvd {b d n : Int} {s r : Nat} (n0 : 0 ≤ n) (nd : n < d) (r0 : 1 ≤ r) (hs : s + r ≤ 1000) (h : d ∣ b ^ s * (b ^ r - 1)) : Soon b d n := by
  refine ⟨s, s + r, by omega, hs, ?_⟩
  rw [rs_pow n0 nd, rs_pow n0 nd]
  refine (Int.emod_eq_emod_iff_emod_sub_eq_zero.mpr ?_).symm
  have e : n * b ^ (s + r) - n * b ^ s = n * (b ^ s * (b ^ r - 1)) := by
    rw [Int.pow_add, Int.mul_sub (b ^ s), Int.mul_one, Int.mul_sub]
  rw [e]
  exact Int.emod_eq_zero_of_dvd (Int.dvd_trans h ⟨n, Int.mul_comm _ _⟩)
/-! ### lowest terms -/
structure Low (a b n d : Int) : Prop where
  n0 : 0 ≤ n
  nd : n ≤ d
  d0 : 0 < d
  gc : Nat.gcd n.natAbs d.natAbs = 1
  dv : d ∣ b
  db : d ≤ b
theorem low_red {a b : Int} (a0 : 0 ≤ a) (ab : a ≤ b) (b0 : 0 < b) : Low a b (a / gN a b) (b / gN a b) := by
  obtain ⟨A, rfl⟩ : ∃ N : Nat, a = (N : Int) := ⟨a.toNat, by omega⟩
  obtain ⟨B, rfl⟩ : ∃ N : Nat, b = (N : Int) := ⟨b.toNat, by omega⟩
  have eg : gN (A : Int) (B : Int) = ((Nat.gcd B A : Nat) : Int) := rfl
  have gp : 0 < Nat.gcd B A := Nat.gcd_pos_of_pos_left _ (by omega)
  have dB := Nat.gcd_dvd_left B A
  rw [eg, ← Int.natCast_ediv, ← Int.natCast_ediv]
  have hb : 0 < B / Nat.gcd B A := Nat.div_pos (Nat.le_of_dvd (by omega) dB) gp
  refine ⟨Int.natCast_nonneg _, Int.ofNat_le.mpr (Nat.div_le_div_right (by omega)), Int.natCast_pos.mpr hb, ?_, ?_, Int.ofNat_le.mpr (Nat.div_le_self _ _)⟩
  · rw [Nat.gcd_comm]
    exact Nat.coprime_div_gcd_div_gcd gp
  · exact Int.natCast_dvd_natCast.mpr (Nat.div_dvd_of_dvd dB)
theorem tp_le {b : Int} (b0 : 2 ≤ b) {S R : List Int} (hS : Digs b S) (hR : Digs b R) : tp b S R ≤ bt b S R := by
  unfold tp bt
  have h1 := (nb_rng (by omega) S hS).2
  have h2 := (nb_rng (by omega) R hR).2
  have h3 := pow_ge_1 b0 R.length
  have h4 : (nb b S + 1) * (b ^ R.length - 1) ≤ b ^ S.length * (b ^ R.length - 1) := Int.mul_le_mul_of_nonneg_right (by omega) (by omega)
  rw [Int.add_mul, Int.one_mul] at h4
  omega
/-- the pen moves, what stands grows -/
theorem fra_small {b n d : Int} (b0 : 2 ≤ b) (b1 : b ≤ 10) (n0 : 0 ≤ n) (nd : n ≤ d) (d0 : 0 < d) (d1 : d ≤ 1000) (g : Nat.gcd n.natAbs d.natAbs = 1) : Fra b n d :=
  ⟨b0, b1, n0, nd, d0, Nat.lt_of_le_of_lt (show d.natAbs ≤ 1000 by omega) (by decide), fun z => soon_small d0 d1 n0 (by omega), g⟩
theorem fra_dvd {b n d : Int} {s r : Nat} (b0 : 2 ≤ b) (b1 : b ≤ 10) (n0 : 0 ≤ n) (nd : n ≤ d) (d0 : 0 < d) (r0 : 1 ≤ r) (hs : s + r ≤ 1000) (h : d ∣ b ^ s * (b ^ r - 1)) (g : Nat.gcd n.natAbs d.natAbs = 1) : Fra b n d := by
  refine ⟨b0, b1, n0, nd, d0, ?_, fun z => soon_dvd n0 (by omega) r0 (by omega) h, g⟩
  have h1 := pow_ge_1 b0 s
  have h2 := pow_ge_2 b0 (k := r) r0
  have hp : 0 < b ^ s * (b ^ r - 1) := Int.mul_pos (by omega) (by omega)
  have hle := Int.le_of_dvd hp h
  have hlt := wide_lt (pow_lt_2 b0 b1 s) (pow_sub_lt b0 b1 r)
  refine Nat.lt_of_le_of_lt (show d.natAbs ≤ (b ^ s * (b ^ r - 1)).natAbs by omega) (Nat.lt_of_lt_of_le hlt (Nat.pow_le_pow_right (by decide) (by omega)))
theorem fra_worth {b : Int} {S R : List Int} (b0 : 2 ≤ b) (b1 : b ≤ 10) (hS : Digs b S) (hR : Digs b R) (hn : R ≠ []) (hl : S.length + R.length ≤ 1000) :
    Fra b (tp b S R / gN (tp b S R) (bt b S R)) (bt b S R / gN (tp b S R) (bt b S R)) ∧ Nat.gcd (tp b S R / gN (tp b S R) (bt b S R)).natAbs (bt b S R / gN (tp b S R) (bt b S R)).natAbs = 1 := by
  have lw := low_red (tp_nn b0 hS hR) (tp_le b0 hS hR) (bt_pos b0 S hn)
  exact ⟨fra_dvd b0 b1 lw.n0 lw.nd lw.d0 (s := S.length) (r := R.length) (by cases R with | nil => exact absurd rfl hn | cons _ _ => simp) hl lw.dv lw.gc, lw.gc⟩
structure Mv (p : Addr) (G H G' H' : Hp) : Prop where
  gg : Same G G'
  gh : Same G' H'
  bt : But p H H'
  old : ∀ b, b ≠ p → H b ≠ none → G' b = G b
  gp : G' p = none
theorem Mv.trans {p : Addr} {G H G1 H1 G2 H2 : Hp} (a : Mv p G H G1 H1) (b : Mv p G1 H1 G2 H2) : Mv p G H G2 H2 :=
  ⟨a.gg.trans b.gg, b.gh, a.bt.trans b.bt, fun c n h => by
    have h1 : H1 c ≠ none := by
      cases q : H c with
      | none => exact absurd q h
      | some o => rw [a.bt c o n q]; exact fun z => nomatch z
    rw [b.old c n h1, a.old c n h], b.gp⟩
theorem Mv.nw {p : Addr} {G H G1 H1 : Hp} (m : Nw G H G1 H1) (h : H p ≠ none) (n : G p = none) : Mv p G H G1 H1 := ⟨m.gg, m.gh, But.of m.hh, fun b _ => m.old b, by rw [m.old p h]; exact n⟩
theorem Mv.take {p : Addr} {G H H1 : Hp} (e : Same G H) (n : G p = none) (b : But p H H1) : Mv p G H G H1 := ⟨Same.refl G, same_but e n b, b, fun _ _ _ => rfl, n⟩
theorem Mv.more {p : Addr} {G H G1 H1 H2 : Hp} (m : Mv p G H G1 H1) (s : Same H1 H2) : Mv p G H G1 H2 := ⟨m.gg, m.gh.trans s, m.bt.trans (But.of s), m.old, m.gp⟩
def spLFraction (K : PySem.W.Frag) : Sp := fun vs H Q _ => ∃ (p pc : Addr) (b M : Int) (t : Nat) (G : Hp), vs = [.ref p, .int b, .int M] ∧ 1 ≤ M ∧ M ≤ 1000 ∧ 2 ≤ b ∧ b ≤ 10 ∧ PenC H p pc t ∧ t + 10 < 2 ^ 29 ∧ Same G H ∧ G p = none ∧
  ∀ (v : V) (n d : Int) (G' H' : Hp), Mv p G H G' H' → PenC H' p pc (t + 4) → Dq K G' v (.tuple [.int n, .int d]) → 0 ≤ n → n ≤ d → 0 < d → d ≤ M → Nat.gcd n.natAbs d.natAbs = 1 → Q v H'
def spLDigits (K : PySem.W.Frag) : Sp := fun vs H Q _ => ∃ (p pc : Addr) (b : Int) (lo hi : Nat) (t : Nat) (G : Hp), vs = [.ref p, .int b, .int lo, .int hi] ∧ 2 ≤ b ∧ b ≤ 10 ∧ lo ≤ hi ∧ hi ≤ 100 ∧ PenC H p pc t ∧ t + 1000 < 2 ^ 29 ∧ Same G H ∧ G p = none ∧
  ∀ (v : V) (l : List Int) (G' H' : Hp), Mv p G H G' H' → PenC H' p pc (t + 1 + hi) → Dq K G' v (iTup l) → Digs b l → lo ≤ l.length → l.length ≤ hi → Q v H'
structure TxF (mg : Str → Option Value) : Prop where
  max : mg "max" = none
  int : mg "int" = none
  range : mg "range" = none
  tuple : mg "tuple" = none
section
variable {P : Program} {w : World} {K : PySem.W.Frag} {mg : Str → Option Value} {base : Heap}
theorem scLFraction : FnScope ["pen", "base", "most", "way", "whole"] ["pen", "base", "most"] (defScope sLFraction) := ⟨rfl, rfl, rfl, by decide +kernel, rfl, by decide +kernel, by decide +kernel⟩
theorem ok_lfraction {f fT fR : Addr} {fd fdT fdR : FuncData} (F : Fun K "_law_fraction" "_law_fraction" sLFraction f fd) (T : TxF mg)
    (FT : Fun K "_law_take" "_law_take" sTake fT fdT) (GT : FnOk P w K mg base CX0 2 fT fdT ["pen", "many"] spTakeC) (bT : Binds K fdT ["pen", "many"] []) (gT : mg "_law_take" = some (.ref fT))
    (FR : Fun K "_law_reduced" "_law_reduced" sRed fR fdR) (GR : FnOk P w K mg base CX0 1 fR fdR ["top", "whole"] spRed) (bR : Binds K fdR ["top", "whole"] []) (gR : mg "_law_reduced" = some (.ref fR)) :
    FnOk P w K mg base CX0 3 f fd ["pen", "base", "most"] (spLFraction K) := by
  refine F.ok scLFraction (fun vs H Q E h => ?_) (fun cdv A outer s H vs Q E hr h => ?_)
  · obtain ⟨p, pc, b, M, t, G, rfl, _⟩ := h
    rfl
  · obtain ⟨p, pc, b, M, t, G, rfl, M0, M1, b0, b1, PA, ht, e, np, k⟩ := h
    have hr2 := hr
    have hr1 : Room 1 _ := hr.mono (by decide)
    refine ⟨_, (pss_cons (ps_set (i := 3) scLFraction.nd rfl (Or.inl rfl) (pe_call GT hr2 (by rfl) gT FT.kp bT .nil pass0 (pa_cons (pv 0) (pa_cons pe_int pa_nil))))
      (pss_cons (ps_set (i := 4) scLFraction.nd rfl (Or.inl rfl) (pe_op op_add pe_int (pe_call GT hr2 (by rfl) gT FT.kp bT .nil pass0 (pa_cons (pv 0) (pa_cons (pv 2) pa_nil)))))
      (C8.pss_cut (ps_if (pt_cmpR op_gt (pv 3) pe_int (nomark _)) (pss_cons (ps_set (i := 4) scLFraction.nd rfl (Or.inl rfl) (pe_ix ix_list (pe_lst (pa_cons pe_int (pa_cons (pv 1) (pa_cons (pe_op op_mul (pv 1) (pv 1)) (pa_cons (pe_op op_mul (pe_op op_mul (pv 1) (pv 1)) (pv 1)) pa_nil))))) (pe_call GT hr2 (by rfl) gT FT.kp bT .nil pass0 (pa_cons (pv 0) (pa_cons pe_int pa_nil))) (fun _ _ => rfl)))
      (pss_cons (ps_while PassesOwn.never (pt_cmpR op_gt (pv 4) (pv 2) (nomark _)) (pss_one (ps_set (i := 4) scLFraction.nd rfl (Or.inl rfl) (pe_op op_fdivW (pv 4) (pv 1)))))
      (pss_one (ps_set (i := 4) scLFraction.nd rfl (Or.inl rfl) (pe_callB (call_max2 rfl) (by rfl) T.max boot_max (pa_cons pe_int (pa_cons (pe_op op_sub (pv 4) (pe_callTy call_int1 (by rfl) T.int boot_int (pa_cons (pe_cmpR op_eq (pv 3) pe_int (nomark _)) pa_nil))) pa_nil))))))) pss_nil)
      (pss_one (ps_ret (pe_call GR hr1 (by rfl) gR FR.kp bR .nil pass0 (pa_cons (pe_call GT hr2 (by rfl) gT FT.kp bT .nil pass0 (pa_cons (pv 0) (pa_cons (pe_op op_add (pv 4) pe_int) pa_nil))) (pa_cons (pv 4) pa_nil)))))))), ?_⟩
    refine ⟨_, rfl, p, pc, 3, t, rfl, by decide, by decide, PA, by omega, fun way H1 w0 w1 b1' P1 => ?_⟩
    refine ⟨_, rfl, _, rfl, p, pc, M, _, rfl, by omega, Nat.lt_of_le_of_lt (show M.natAbs ≤ 1000 by omega) (by decide), P1, by omega, fun u H2 u0 u1 b2' P2 => ?_⟩
    refine ⟨_, _, rfl, rfl, ?_⟩
    have bt2 := b1'.trans b2'
    refine ⟨fun σ H3 => ∃ z : Int, σ = [some (.ref p), some (.int b), some (.int M), some (.int way), some (.int z)] ∧ 1 ≤ z ∧ z ≤ M ∧ But p H H3 ∧ PenC H3 p pc (t + 3), ?_, ?_⟩
    · refine ⟨_, rfl, _, _, rfl, rfl, _, rfl, ite2 (fun _ => ?_) (fun _ => ⟨1 + u, rfl, by omega, by omega, bt2, P2.same (Same.refl _) (by omega)⟩)⟩
      refine ⟨_, rfl, _, rfl, _, rfl, _, _, rfl, rfl, small_base b0 b1 _, _, rfl, _, rfl, _, _, rfl, rfl, small_base b0 b1 _, _, rfl, _, _, rfl, rfl, small_base b0 b1 _, (by show 4 ≤ sizeLine; decide), fun l nl => ?_⟩
      refine ⟨_, rfl, p, pc, 4, _, rfl, by decide, by decide, P2.same (Same.upd nl) (Nat.le_refl _), by omega, fun m H3 m0 m1 b3' P3 => ?_⟩
      have lp : l ≠ p := pen_not P2.any nl
      obtain ⟨z, j, hz, hzj⟩ : ∃ (z : Int) (j : Nat), atI [V.int 1, V.int b, V.int (b * b), V.int (b * b * b)] m = some (.int z) ∧ z = b ^ j := by
        have h : m = 0 ∨ m = 1 ∨ m = 2 ∨ m = 3 := by omega
        rcases h with rfl | rfl | rfl | rfl
        · exact ⟨_, 0, rfl, by rw [Int.pow_zero]⟩
        · exact ⟨_, 1, rfl, by rw [Int.pow_succ, Int.pow_zero, Int.one_mul]⟩
        · exact ⟨_, 2, rfl, by rw [Int.pow_succ, Int.pow_succ, Int.pow_zero, Int.one_mul]⟩
        · exact ⟨_, 3, rfl, by rw [Int.pow_succ, Int.pow_succ, Int.pow_succ, Int.pow_zero, Int.one_mul]⟩
      refine ⟨l, _, m, _, rfl, rfl, SqL.of (b3' _ _ lp upd_same), hz, ?_⟩
      subst hzj
      refine while_by (fun σ H4 => ∃ j : Nat, σ = [some (.ref p), some (.int b), some (.int M), some (.int way), some (.int (b ^ j))] ∧ H4 = H3) (fun σ _ => match σ with | [_, _, _, _, some (.int y)] => y.natAbs | _ => 0) ⟨j, rfl, rfl⟩ ?_ (fun σ H4 Q1 Q2 m h => let ⟨v, e1, v2, e2, i, j, e3, e4, u, e5, h2⟩ := h; ⟨v, e1, v2, e2, i, j, e3, e4, u, e5, m _ _ h2⟩)
      rintro σ H4 ⟨j, rfl, rfl⟩
      have p1 := pow_ge_1 b0 j
      refine ⟨_, rfl, _, rfl, _, _, rfl, rfl, _, rfl, ?_⟩
      by_cases hgt : M < b ^ j
      · refine ifT (decide_eq_true hgt) ?_
        obtain ⟨i, rfl⟩ : ∃ i, j = i + 1 := ⟨j - 1, by cases j with | zero => rw [Int.pow_zero] at hgt; omega | succ i => rfl⟩
        have p2 := pow_ge_1 b0 i
        have ed : b ^ (i + 1) / b = b ^ i := by rw [Int.pow_succ]; exact Int.mul_ediv_cancel _ (by omega)
        refine ⟨_, rfl, _, rfl, _, _, rfl, rfl, wide_div (b := 10) (by omega) (show b.natAbs < 2 ^ 10 by omega) (by decide) (by decide), ?_⟩
        refine ⟨⟨i, by rw [← ed]; rfl, rfl⟩, ?_⟩
        show (b ^ (i + 1) / b).natAbs < (b ^ (i + 1)).natAbs
        rw [ed, Int.pow_succ]
        have : b ^ i * 2 ≤ b ^ i * b := Int.mul_le_mul_of_nonneg_left b0 (by omega)
        omega
      refine ifF (decide_eq_false hgt) ?_
      generalize b ^ j = z at p1 hgt
      refine ⟨_, rfl, _, rfl, rfl, .inr ⟨_, rfl, _, _, rfl, rfl, _, _, rfl, ?_⟩⟩
      have bt4 := (bt2.trans (But.of (Same.upd nl))).trans b3'
      refine ⟨_, rfl, ?_, ?_, bt4, P3.same (Same.refl _) (by omega)⟩
      · (repeat' split) <;> omega
      · (repeat' split) <;> omega
    · rintro σ H3 ⟨z, rfl, z0, z1, bt3, P3⟩
      have g3 : Same G H3 := same_but e np bt3
      refine ⟨_, rfl, _, rfl, _, _, rfl, rfl, p, pc, z + 1, _, rfl, by omega, Nat.lt_of_le_of_lt (show (z + 1).natAbs ≤ 1001 by omega) (by decide), P3, by omega, fun m H4 m0 m1 b4' P4 => ?_⟩
      have g4 : Same G H4 := same_but g3 np b4'
      refine ⟨_, rfl, m, z, rfl, m0, by omega, Nat.lt_of_le_of_lt (show z.natAbs ≤ 1001 by omega) (by decide), fun q nq => ?_⟩
      have lw := low_red m0 (show m ≤ z by omega) (show 0 < z by omega)
      have nw := Nw.mk1 g4 nq (.tup [.int (m / gN m z), .int (z / gN m z)])
      refine k (.ref q) _ _ _ _ ((Mv.take e np (bt3.trans b4')).trans (Mv.nw nw P4.any.some np)) (P4.same nw.hh (by omega)) (.tup upd_same (.cons (.int _) (.cons (.int _) .nil))) lw.n0 lw.nd lw.d0 (by have := lw.db; omega) lw.gc
end
end My

namespace My
open PySem PySem.Spec PyProof.Rows L2
/-! ### texts -/
abbrev tl (x : Str) : List Nat := x.cps.toList
theorem len_tl (x : Str) : x.length = (tl x).length := by simp [tl, Str.length]
theorem tl_ap (x y : Str) : tl (x ++ y) = tl x ++ tl y := by
  show (x ++ y).cps.toList = _
  rw [Str.cps_append, Array.toList_append]
def ofL (l : List Nat) : Str := ⟨l.toArray⟩
theorem tl_ofL (l : List Nat) : tl (ofL l) = l := rfl
theorem ofL_tl (x : Str) : ofL (tl x) = x := Str.ext' (by simp [ofL, tl])
/-- x * k, k at least 1 -/
def rMulS : R2 := fun x y H Q => ∃ (z : Str) (k : Nat), x = .str z ∧ y = .int k ∧ 1 ≤ k ∧ k ≤ 1000 ∧ z.length ≤ 1000 ∧ Q (.str (ofL (List.replicate k (tl z)).flatten)) H
theorem fold_cat : ∀ (k : Nat) (a b : Array Nat), ((List.replicate k b).foldl (· ++ ·) a).toList = a.toList ++ (List.replicate k b.toList).flatten
  | 0, a, b => by simp
  | k + 1, a, b => by
    rw [List.replicate_succ, List.foldl_cons, fold_cat k, List.replicate_succ, List.flatten_cons, Array.toList_append, List.append_assoc]
theorem op_mulS {X : Cx} : OpR X (binaryOp .Mult) rMulS := by
  intro pins s σ H x y v u Q I rx ry h
  obtain ⟨z, k, rfl, rfl, k1, k2, hz, q⟩ := h
  obtain ⟨t, rfl⟩ := rx
  obtain ⟨t', rfl⟩ := ry
  have big : ((z.length : Int)) ≤ (2 ^ 63 - 1) / (k : Int) := by
    rw [Int.le_ediv_iff_mul_le (by omega)]
    have : (z.length : Int) * (k : Int) ≤ 1000 * 1000 := Int.mul_le_mul (by omega) (by omega) (by omega) (by decide)
    omega
  have small : z.length * k ≤ 1000 * 1000 := Nat.mul_le_mul hz k2
  refine PySem.P.mul_str (by
    have h1 : ¬ ((k : Int) < -(2 ^ 63 : Int)) := by omega
    have h2 : ¬ ((k : Int) ≥ 2 ^ 63) := by omega
    rw [decide_eq_false h1, decide_eq_false h2]; rfl) (fun _ _ => by omega) (fun _ _ => ?_) ?_
  · rw [Int.toNat_natCast]
    refine decide_eq_false ?_
    have := line63
    show ¬ (z.length * k > _)
    have e : sizeLine = 16777216 := sizeLine_eq
    omega
  · rw [if_neg (by omega)]
    by_cases c : ((k : Int) == 1 || z.length == 0) = true
    · rw [if_pos c]
      have e : ofL (List.replicate k (tl z)).flatten = z := by
        rcases (Bool.or_eq_true _ _).mp c with c | c
        · have k1 : k = 1 := by have := (beq_iff_eq).mp c; omega
          subst k1
          show ofL (tl z ++ []) = z
          rw [List.append_nil, ofL_tl]
        · have z0 : tl z = [] := by
            have := (beq_iff_eq).mp c
            rw [len_tl] at this
            exact List.eq_nil_of_length_eq_zero this
          have : (List.replicate k (tl z)).flatten = [] := by rw [z0]; simp
          rw [this, ← z0, ofL_tl]
      rw [e] at q
      exact ⟨.str z, H, I, ⟨t, rfl⟩, q⟩
    · rw [if_neg c, Int.toNat_natCast]
      have e : (⟨(List.replicate k z.cps).foldl (· ++ ·) #[]⟩ : Str) = ofL (List.replicate k (tl z)).flatten := Str.ext' (Array.toList_inj.mp (by rw [fold_cat]; simp [ofL, tl]))
      rw [e]
      refine ⟨?_, .str _, H, I.tok _, ⟨_, rfl⟩, q⟩
      show (ofL (List.replicate k (tl z)).flatten).length ≤ sizeLine
      rw [len_tl, tl_ofL, List.length_flatten, List.map_replicate, List.sum_replicate_nat, ← len_tl, Nat.mul_comm, sizeLine_eq]
      omega
/-! ### letters -/
def Lets (l : List Nat) : Prop := ∀ c ∈ l, 97 ≤ c ∧ c ≤ 122
structure NameOk (x : Str) : Prop where
  lets : Lets (tl x)
  lo : 1 ≤ x.length
  hi : x.length ≤ 8
def sgS : Str := "abcdefghijklmnopqrstuvwxyz"
theorem sg_tl : tl sgS = (List.range 26).map (97 + ·) := by decide +kernel
theorem sg_len : sgS.length = 26 := by rw [len_tl, sg_tl]; decide
theorem sg_at {i : Int} (h0 : 0 ≤ i) (h1 : i < 26) : atI sgS.cps.toList i = some (97 + i.toNat) := by
  obtain ⟨j, rfl⟩ : ∃ j : Nat, i = (j : Int) := ⟨i.toNat, by omega⟩
  refine atI_nat ?_
  show (tl sgS)[j]? = _
  rw [sg_tl, List.getElem?_map, List.getElem?_range (by omega)]
  simp
def chr (i : Int) : Str := ⟨#[97 + i.toNat]⟩
theorem tl_chr (i : Int) : tl (chr i) = [97 + i.toNat] := rfl
theorem chr_len (i : Int) : (chr i).length = 1 := rfl
theorem lets_chr {i : Int} (h0 : 0 ≤ i) (h1 : i < 26) : Lets (tl (chr i)) := fun c hc => by
  rw [tl_chr] at hc
  have := List.mem_singleton.mp hc
  omega
theorem flat1 (m c : Nat) : (List.replicate m [c]).flatten = List.replicate m c := by
  induction m with
  | zero => rfl
  | succ n ih => rw [List.replicate_succ, List.flatten_cons, ih, List.replicate_succ]; rfl
def repC (m : Nat) (i : Int) : Str := ofL (List.replicate m (tl (chr i))).flatten
theorem tl_repC (m : Nat) (i : Int) : tl (repC m i) = List.replicate m (97 + i.toNat) := by
  show (List.replicate m [97 + i.toNat]).flatten = _
  exact flat1 m _
theorem repC_ok {m : Nat} {i : Int} (h0 : 0 ≤ i) (h1 : i < 26) (m1 : 1 ≤ m) (m2 : m ≤ 8) : NameOk (repC m i) := by
  refine ⟨fun c hc => ?_, ?_, ?_⟩
  · rw [tl_repC] at hc
    have := (List.mem_replicate.mp hc).2
    omega
  · rw [len_tl, tl_repC, List.length_replicate]; exact m1
  · rw [len_tl, tl_repC, List.length_replicate]; exact m2
theorem repC_inj {m n : Nat} {i j : Int} (m1 : 1 ≤ m) (h0 : 0 ≤ i) (h1 : 0 ≤ j) (h : repC m i = repC n j) : m = n ∧ i = j := by
  have e : List.replicate m (97 + i.toNat) = List.replicate n (97 + j.toNat) := by rw [← tl_repC, ← tl_repC, h]
  have l := congrArg List.length e
  rw [List.length_replicate, List.length_replicate] at l
  subst l
  refine ⟨rfl, ?_⟩
  have z : (97 + i.toNat) ∈ List.replicate m (97 + j.toNat) := by rw [← e]; exact List.mem_replicate.mpr ⟨by omega, rfl⟩
  have := (List.mem_replicate.mp z).2
  omega
def mid (x : Str) (a : Nat) (i : Int) : Str := cutS x none (some (a : Int)) ++ chr i ++ cutS x (some (a : Int)) none
theorem tl_cut_to (x : Str) {a : Nat} (h : a ≤ x.length) : tl (cutS x none (some (a : Int))) = (tl x).take a := by
  show ((x.cps.toList.drop 0).take (HT.sIx x.length x.length (some (a : Int)) - 0)) = _
  rw [sIx_nat, Nat.min_eq_left h]; rfl
theorem tl_cut_from (x : Str) {a : Nat} (h : a ≤ x.length) : tl (cutS x (some (a : Int)) none) = (tl x).drop a := by
  show ((x.cps.toList.drop (HT.sIx x.length 0 (some (a : Int)))).take (x.length - HT.sIx x.length 0 (some (a : Int)))) = _
  rw [sIx_nat, Nat.min_eq_left h]
  refine List.take_of_length_le ?_
  rw [List.length_drop, len_tl]
  exact Nat.le_refl _
theorem tl_mid (x : Str) {a : Nat} (i : Int) (h : a ≤ x.length) : tl (mid x a i) = (tl x).take a ++ [97 + i.toNat] ++ (tl x).drop a := by
  unfold mid
  rw [tl_ap, tl_ap, tl_cut_to x h, tl_cut_from x h, tl_chr]
theorem mid_ok {x : Str} {a : Nat} {i : Int} (h : a ≤ x.length) (hx : Lets (tl x)) (hl : x.length ≤ 7) (h0 : 0 ≤ i) (h1 : i < 26) : NameOk (mid x a i) := by
  have hl' := len_tl x
  have e : (mid x a i).length = x.length + 1 := by
    rw [len_tl, tl_mid x i h, List.length_append, List.length_append, List.length_take, List.length_drop, ← hl']
    simp only [List.length_cons, List.length_nil]
    omega
  refine ⟨fun c hc => ?_, by omega, by omega⟩
  rw [tl_mid x i h] at hc
  rcases List.mem_append.mp hc with hc | hc
  · rcases List.mem_append.mp hc with hc | hc
    · exact hx c (List.mem_of_mem_take hc)
    · have := List.mem_singleton.mp hc; omega
  · exact hx c (List.mem_of_mem_drop hc)
theorem mid_inj {x : Str} {a : Nat} {i j : Int} (h : a ≤ x.length) (h0 : 0 ≤ i) (h1 : 0 ≤ j) (e : mid x a i = mid x a j) : i = j := by
  have z : (tl x).take a ++ [97 + i.toNat] ++ (tl x).drop a = (tl x).take a ++ [97 + j.toNat] ++ (tl x).drop a := by rw [← tl_mid x i h, ← tl_mid x j h, e]
  have y := List.append_cancel_left (List.append_cancel_right z)
  injection y with y _
  omega
theorem nodup_of {α : Type} {f : Nat → α} {m : Nat} (h : ∀ i j, i < j → j < m → f i ≠ f j) : ((List.range m).map f).Nodup :=
  List.pairwise_map.mpr (List.Pairwise.imp_of_mem (R := (· < ·)) (fun {i j} _ hj hlt => h i j hlt (List.mem_range.mp hj)) List.pairwise_lt_range)
def nm0 (f a : Int) (k : Nat) : Str := repC (1 + ((a + 3 * k) % 8).toNat) ((f + 5 * k) % 26)
def nm1 (f a : Int) (k : Nat) : Str := repC (1 + ((a + k) % 8).toNat) f
def nm2 (x : Str) (f : Int) (a : Nat) (k : Nat) : Str := mid x a ((f + 5 * k) % 26)
structure NamesOk (ns : List Str) (m : Nat) : Prop where
  len : ns.length = m
  nod : ns.Nodup
  ok : ∀ x ∈ ns, NameOk x
theorem names_of {f : Nat → Str} {m : Nat} (h : ∀ i j, i < j → j < m → f i ≠ f j) (ok : ∀ i, i < m → NameOk (f i)) : NamesOk ((List.range m).map f) m :=
  ⟨by simp, nodup_of h, fun x hx => by
    obtain ⟨i, hi, rfl⟩ := List.mem_map.mp hx
    exact ok i (List.mem_range.mp hi)⟩
theorem md {x k : Int} (h : 0 < k) : 0 ≤ x % k ∧ x % k < k := ⟨Int.emod_nonneg _ (by omega), Int.emod_lt_of_pos _ h⟩
theorem names0 {f a : Int} {m : Nat} (hm : m ≤ 8) : NamesOk ((List.range m).map (nm0 f a)) m :=
  names_of (fun i j h1 h2 e => by
    have r1 := md (x := f + 5 * i) (k := 26) (by decide)
    have r2 := md (x := f + 5 * j) (k := 26) (by decide)
    have := (repC_inj (by omega) r1.1 r2.1 e).2
    omega) fun i _ => by
    have r1 := md (x := f + 5 * i) (k := 26) (by decide)
    have r2 := md (x := a + 3 * i) (k := 8) (by decide)
    exact repC_ok r1.1 r1.2 (by omega) (by omega)
theorem names1 {f a : Int} {m : Nat} (hm : m ≤ 8) (f0 : 0 ≤ f) (f1 : f < 26) : NamesOk ((List.range m).map (nm1 f a)) m :=
  names_of (fun i j h1 h2 e => by
    have r1 := md (x := a + i) (k := 8) (by decide)
    have r2 := md (x := a + j) (k := 8) (by decide)
    have := (repC_inj (by omega) f0 f0 e).1
    omega) fun i _ => by
    have r2 := md (x := a + i) (k := 8) (by decide)
    exact repC_ok f0 f1 (by omega) (by omega)
theorem names2 {x : Str} {f : Int} {a m : Nat} (hm : m ≤ 8) (h : a ≤ x.length) (hx : Lets (tl x)) (hl : x.length ≤ 7) : NamesOk ((List.range m).map (nm2 x f a)) m :=
  names_of (fun i j h1 h2 e => by
    have r1 := md (x := f + 5 * i) (k := 26) (by decide)
    have r2 := md (x := f + 5 * j) (k := 26) (by decide)
    have := mid_inj h r1.1 r2.1 e
    omega) fun i _ => by
    have r1 := md (x := f + 5 * i) (k := 26) (by decide)
    exact mid_ok h hx hl r1.1 r1.2
/-! ### joined -/
theorem join_nil (ys : List Str) : tl (Txt.join "" ys) = (ys.map tl).flatten := by
  show tl (Builtin.Str.glued (Str.ofString "") ys) = _
  rw [StrLaws.glued_eq_join]
  have e0 : tl (Str.ofString "") = [] := by decide +kernel
  have key : ∀ zs : List Str, tl (Str.join (Str.ofString "") zs) = (zs.map tl).flatten := by
    intro zs
    induction zs with
    | nil => rfl
    | cons x r ih =>
      cases r with
      | nil => show tl x = _; simp
      | cons y r =>
        show tl (x ++ Str.ofString "" ++ Str.join (Str.ofString "") (y :: r)) = _
        rw [tl_ap, tl_ap, e0, List.append_nil, ih]; rfl
  exact key ys
theorem join_chrs {cs : List Int} (h : ∀ c ∈ cs, 0 ≤ c ∧ c < 26) : Lets (tl (Txt.join "" (cs.map chr))) ∧ (Txt.join "" (cs.map chr)).length = cs.length := by
  have e : tl (Txt.join "" (cs.map chr)) = cs.map fun c => 97 + c.toNat := by
    rw [join_nil, List.map_map]
    clear h
    induction cs with
    | nil => rfl
    | cons c r ih => rw [List.map_cons, List.flatten_cons, ih]; rfl
  refine ⟨fun c hc => ?_, by rw [len_tl, e, List.length_map]⟩
  rw [e] at hc
  obtain ⟨d, hd, rfl⟩ := List.mem_map.mp hc
  have := h d hd
  omega
end My

namespace My
open PySem PySem.Spec PyProof.Rows L2
abbrev sNames : Stmt := topS 30
def spNames : Sp := fun vs H Q _ => ∃ (p pc : Addr) (m t : Nat), vs = [.ref p, .int m] ∧ m ≤ 8 ∧ PenC H p pc t ∧ t + 20 < 2 ^ 29 ∧
  ∀ (l : Addr) (ns : List Str) (H' : Hp), NamesOk ns m → H l = none → But p H H' → PenC H' p pc (t + 11) → H' l = some (.lst (ns.map V.str)) → Q (.ref l) H'
structure TxN (mg : Str → Option Value) : Prop where
  len : mg "len" = none
  range : mg "range" = none
section
variable {P : Program} {w : World} {K : PySem.W.Frag} {mg : Str → Option Value} {base : Heap}
theorem scNames : FnScope ["pen", "many", "signs", "stem", "at", "first", "way", "k"] ["pen", "many"] (defScope sNames) := ⟨rfl, rfl, rfl, by decide +kernel, rfl, by decide +kernel, by decide +kernel⟩
theorem small_nat {k : Nat} (h : k ≤ 1000) : (k : Int).natAbs < 2 ^ 8000 := Nat.lt_of_le_of_lt (show (k : Int).natAbs ≤ 1000 by omega) (by decide)
theorem small_int {k : Int} (h0 : 0 ≤ k) (h : k ≤ 1000) : k.natAbs < 2 ^ 8000 := Nat.lt_of_le_of_lt (show k.natAbs ≤ 1000 by omega) (by decide)
theorem map_snoc (f : Nat → Str) (i : Nat) : (((List.range i).map f).map V.str) ++ [V.str (f i)] = ((List.range (i + 1)).map f).map V.str := by
  rw [List.range_succ, List.map_append, List.map_append]; rfl
theorem ok_names {f fT : Addr} {fd fdT : FuncData} (F : Fun K "_law_names" "_law_names" sNames f fd) (T : TxN mg)
    (FT : Fun K "_law_take" "_law_take" sTake fT fdT) (GT : FnOk P w K mg base CX0 2 fT fdT ["pen", "many"] spTakeC) (bT : Binds K fdT ["pen", "many"] []) (gT : mg "_law_take" = some (.ref fT)) :
    FnOk P w K mg base CX0 3 f fd ["pen", "many"] spNames := by
  refine F.ok scNames (fun vs H Q E h => ?_) (fun cdv A outer s H vs Q E hr h => ?_)
  · obtain ⟨p, pc, m, t, rfl, _⟩ := h
    rfl
  · obtain ⟨p, pc, m, t, rfl, hm, PC, ht, k⟩ := h
    have hr2 := hr
    refine ⟨_, (pss_cons (ps_set (i := 2) scNames.nd rfl (Or.inr rfl) pe_str)
      (pss_cons (ps_set (i := 3) scNames.nd rfl (Or.inr rfl) (pe_bm PySem.F.plainAttrs_str PySem.F.slot_str_join PySem.F.type_str_join mt_join pe_str (pa_cons (pe_lc (own := [("k", 7)]) (g := gName 7) (tt := tYes) rfl scNames.nd (pi_range1 (by rfl) T.range (pa_cons (pe_call GT hr2 (by rfl) gT FT.kp bT .nil pass0 (pa_cons (pv 0) (pa_cons pe_int pa_nil))) pa_nil)) (blkOk_by (N := ["pen", "many", "signs", "stem", "at", "first", "way", "k"]) (sc := defScope sNames) (by decide +kernel)) (fun _ _ _ _ _ => pg_name (i := 7) scNames.nd rfl (Or.inl rfl)) (fun _ _ _ _ _ => pts_nil) (fun _ _ _ _ _ => (pe_ix ix_str (pv 2) (pe_call GT hr2 (by rfl) gT FT.kp bT .nil pass0 (pa_cons (pv 0) (pa_cons pe_int pa_nil))) (fun _ _ => rfl)))) pa_nil)))
      (pss_cons (ps_set (i := 4) scNames.nd rfl (Or.inr rfl) (pe_call GT hr2 (by rfl) gT FT.kp bT .nil pass0 (pa_cons (pv 0) (pa_cons (pe_op op_add (pe_callB call_len_str (by rfl) T.len PySem.boot_len (pa_cons (pv 3) pa_nil)) pe_int) pa_nil))))
      (pss_cons (ps_set (i := 5) scNames.nd rfl (Or.inr rfl) (pe_call GT hr2 (by rfl) gT FT.kp bT .nil pass0 (pa_cons (pv 0) (pa_cons pe_int pa_nil))))
      (pss_cons (ps_set (i := 6) scNames.nd rfl (Or.inl rfl) (pe_call GT hr2 (by rfl) gT FT.kp bT .nil pass0 (pa_cons (pv 0) (pa_cons pe_int pa_nil))))
      (pss_cons (ps_if (pt_cmpR op_eq (pv 6) pe_int (nomark _)) (pss_one (ps_ret (pe_lc (own := [("k", 7)]) (g := gName 7) (tt := tYes) rfl scNames.nd (pi_range1 (by rfl) T.range (pa_cons (pv 1) pa_nil)) (blkOk_by (N := ["pen", "many", "signs", "stem", "at", "first", "way", "k"]) (sc := defScope sNames) (by decide +kernel)) (fun _ _ _ _ _ => pg_name (i := 7) scNames.nd rfl (Or.inl rfl)) (fun _ _ _ _ _ => pts_nil) (fun _ _ _ _ _ => (pe_op op_mulS (pe_ix ix_str (pv 2) (pe_op op_mod (pe_op op_add (pv 5) (pe_op op_mul pe_int (pv 7))) pe_int) (fun _ _ => rfl)) (pe_op op_add pe_int (pe_op op_mod (pe_op op_add (pv 4) (pe_op op_mul pe_int (pv 7))) pe_int))))))) pss_nil)
      (C8.pss_cut (ps_if (PW.pt (pw_and (pt_cmpR op_eq (pv 6) pe_int (nomark _)) (pw_and1 (pt_cmpR op_lt (pv 1) pe_int (nomark _))))) (pss_one (ps_ret (pe_lc (own := [("k", 7)]) (g := gName 7) (tt := tYes) rfl scNames.nd (pi_range1 (by rfl) T.range (pa_cons (pv 1) pa_nil)) (blkOk_by (N := ["pen", "many", "signs", "stem", "at", "first", "way", "k"]) (sc := defScope sNames) (by decide +kernel)) (fun _ _ _ _ _ => pg_name (i := 7) scNames.nd rfl (Or.inl rfl)) (fun _ _ _ _ _ => pts_nil) (fun _ _ _ _ _ => (pe_op op_mulS (pe_ix ix_str (pv 2) (pv 5) (fun _ _ => rfl)) (pe_op op_add pe_int (pe_op op_mod (pe_op op_add (pv 4) (pv 7)) pe_int))))))) pss_nil)
      (pss_one (ps_ret (pe_lc (own := [("k", 7)]) (g := gName 7) (tt := tYes) rfl scNames.nd (pi_range1 (by rfl) T.range (pa_cons (pv 1) pa_nil)) (blkOk_by (N := ["pen", "many", "signs", "stem", "at", "first", "way", "k"]) (sc := defScope sNames) (by decide +kernel)) (fun _ _ _ _ _ => pg_name (i := 7) scNames.nd rfl (Or.inl rfl)) (fun _ _ _ _ _ => pts_nil) (fun _ _ _ _ _ => (pe_op op_add_str (pe_op op_add_str (pe_slice sl_str (pv 3) po_none (po_some (pv 4))) (pe_ix ix_str (pv 2) (pe_op op_mod (pe_op op_add (pv 5) (pe_op op_mul pe_int (pv 7))) pe_int) (fun _ _ => rfl))) (pe_slice sl_str (pv 3) (po_some (pv 4)) po_none))))))))))))), ?_⟩
    refine ⟨rfl, _, rfl, p, pc, 8, t, rfl, by decide, by decide, PC, by omega, fun m1 H1 m10 m11 b1' P1 => ?_⟩
    obtain ⟨c, rfl⟩ : ∃ c : Nat, m1 = (c : Int) := ⟨m1.toNat, by omega⟩
    refine ⟨_, rfl, by omega, by omega, fun D nD => ?_⟩
    have Dp : D ≠ p := pen_not P1.any nD
    have Dc : D ≠ pc := fun z => P1.at_c (by rw [← z]; exact nD)
    rw [Int.toNat_natCast]
    refine lc_it (walk_range (lo := 0) (n := c)) (fun i H2 => PenC H2 p pc (t + 1 + i) ∧ But p H1 H2 ∧ i ≤ c ∧ ∃ l : List Int, l.length = i ∧ (∀ x ∈ l, 0 ≤ x ∧ x < 26) ∧ H2 D = some (.lst ((l.map chr).map V.str))) ⟨P1.same (Same.upd nD) (by omega), But.of (Same.upd nD), Nat.zero_le _, [], rfl, (fun x hx => nomatch hx), upd_same⟩ (fun _ _ _ _ => trivial) ?_ ?_
    · rintro i x H2 H3 hi' ⟨P2, b2', _, l, hl, hd, hD⟩ ⟨rfl, rfl⟩
      refine ⟨rfl, ?_⟩
      refine ⟨_, rfl, _, rfl, p, pc, 26, _, rfl, by decide, by decide, P2, by omega, fun z H4 z0 z1 b4' P4 => ?_⟩
      have hD4 := b4' _ _ Dp hD
      refine ⟨sgS, z, _, rfl, rfl, by rw [sg_len]; decide, sg_at z0 z1, ?_⟩
      refine ⟨_, hD4, by rw [List.length_map, List.length_map, sizeLine_eq]; omega, P4.upd Dp Dc (by omega) _, ?_, by omega, l ++ [z], by rw [List.length_append, hl]; rfl, ?_, by rw [upd_same, List.map_append, List.map_append]; rfl⟩
      · intro c' o hn hc'
        rw [upd_ne (ne_of_none hc' nD)]
        exact b4' c' o hn (b2' c' o hn hc')
      · intro x hx
        rcases List.mem_append.mp hx with hx | hx
        · exact hd x hx
        · rw [List.mem_singleton.mp hx]; exact ⟨z0, z1⟩
    · rintro H2 ⟨P2, b2', _, l, hl, hd, hD⟩
      obtain ⟨j1, j2⟩ := join_chrs hd
      refine ⟨"", D, l.map chr, rfl, rfl, .inl (SqL.of hD), ?_, ?_⟩
      · have e1 : ((l.map chr).map (·.length)).sum = l.length := by
          rw [List.map_map]
          clear hD hd hl j1 j2
          induction l with
          | nil => rfl
          | cons x r ih => rw [List.map_cons, List.sum_cons, ih]; show 1 + r.length = _; rw [List.length_cons]; omega
        have e2 : (("" : String) : Str).length = 0 := by decide
        rw [e1, e2]; omega
      generalize Txt.join "" (l.map chr) = st at j1 j2
      refine ⟨_, rfl, _, rfl, st, rfl, by rw [sizeLine_eq]; omega, _, _, rfl, rfl, p, pc, _, _, rfl, by omega, small_int (by omega) (by omega), P2, by omega, fun a H3 a0 a1 b3' P3 => ?_⟩
      obtain ⟨a, rfl⟩ : ∃ c : Nat, a = (c : Int) := ⟨a.toNat, by omega⟩
      refine ⟨_, rfl, p, pc, 26, _, rfl, by decide, by decide, P3, by omega, fun f H4 f0 f1 b4' P4 => ?_⟩
      refine ⟨_, rfl, p, pc, 3, _, rfl, by decide, by decide, P4, by omega, fun wy H5 w0 w1 b5' P5 => ?_⟩
      have bt : But p H H5 := (((b1'.trans b2').trans b3').trans b4').trans b5'
      have P5 : PenC H5 p pc (t + 11) := P5.same (Same.refl _) (by omega)
      have free : ∀ q : Addr, H5 q = none → H q = none := fun q nq => by
        cases z : H q with
        | none => rfl
        | some o =>
          by_cases hq : q = p
          · subst hq; exact absurd nq P5.any.some
          · rw [bt q o hq z] at nq; cases nq
      have fin : ∀ (g : Nat → Str) (q : Addr) (H6 : Hp), NamesOk ((List.range m).map g) m → H5 q = none → Same H5 H6 → H6 q = some (.lst (((List.range m).map g).map V.str)) → Q (.ref q) H6 := fun g q H6 ok nq s6 h6 =>
        k q _ H6 ok (free q nq) (bt.trans (But.of s6)) (P5.same s6 (Nat.le_refl _)) h6
      have lps : ∀ (g : Nat → Str) (D : Addr) (i : Nat) (H6 : Hp), H5 D = none → i < m → Same H5 H6 → H6 D = some (.lst (((List.range i).map g).map V.str)) →
          ∃ acc, H6 D = some (.lst acc) ∧ acc.length < sizeLine ∧ Same H5 (upd H6 D (.lst (acc ++ [V.str (g i)]))) ∧ (upd H6 D (.lst (acc ++ [V.str (g i)]))) D = some (.lst (((List.range (i + 1)).map g).map V.str)) := fun g D i H6 nD hi s6 hD => by
        refine ⟨_, hD, by rw [List.length_map, List.length_map, List.length_range, sizeLine_eq]; omega, fun b o hb => ?_, by rw [upd_same, map_snoc]⟩
        rw [upd_ne (ne_of_none hb nD)]
        exact s6 b o hb
      refine ⟨_, rfl, rfl, _, rfl, ite2 (fun _ => ?_) (fun _ => ?_)⟩
      · -- way 0
        refine ⟨_, rfl, _, rfl, by omega, by omega, fun D2 nD2 => ?_⟩
        rw [Int.toNat_natCast]
        refine lc_it (walk_range (lo := 0) (n := m)) (fun i H6 => Same H5 H6 ∧ H6 D2 = some (.lst (((List.range i).map (nm0 f a)).map V.str))) ⟨Same.upd nD2, upd_same⟩ (fun _ _ _ _ => trivial) ?_ (fun H6 ⟨s6, h6⟩ => fin _ D2 H6 (names0 hm) nD2 s6 h6)
        rintro i x H6 H7 hi' ⟨s6, hD6⟩ ⟨rfl, hx⟩
        replace hx : x = V.int i := hx.trans (by show V.int (0 + (i : Int)) = _; rw [Int.zero_add])
        subst hx
        refine ⟨rfl, ?_⟩
        have r1 := md (x := f + 5 * i) (k := 26) (by decide)
        have r2 := md (x := (a : Int) + 3 * i) (k := 8) (by decide)
        refine ⟨_, rfl, _, rfl, _, rfl, _, _, rfl, rfl, .inl ⟨by omega, by omega⟩, _, _, rfl, rfl, _, _, rfl, rfl, (by show (0 : Int) < 26; decide), sgS, _, _, rfl, rfl, by rw [sg_len]; decide, sg_at r1.1 r1.2, ?_⟩
        refine ⟨_, rfl, _, rfl, _, _, rfl, rfl, .inl ⟨by omega, by omega⟩, _, _, rfl, rfl, _, _, rfl, rfl, (by show (0 : Int) < 8; decide), _, _, rfl, rfl, chr ((f + 5 * i) % 26), (1 + (((a : Int) + 3 * i) % 8).toNat), rfl, by simp only [V.int.injEq]; omega, by omega, by omega, by rw [chr_len]; decide, ?_⟩
        exact lps (nm0 f a) D2 i _ nD2 hi' s6 hD6
      refine ⟨fun σ H6 => σ = [some (.ref p), some (.int m), some (.str sgS), some (.str st), some (.int a), some (.int f), some (.int wy), none] ∧ H5 = H6, ?_, ?_⟩
      · refine ⟨_, rfl, rfl, _, rfl, ite2 (fun _ => ?_) (fun _ => iteF ⟨rfl, rfl⟩)⟩
        refine ⟨_, rfl, _, _, rfl, rfl, _, rfl, ite2 (fun _ => ?_) (fun _ => ⟨rfl, rfl⟩)⟩
        refine ⟨_, rfl, _, rfl, by omega, by omega, fun D2 nD2 => ?_⟩
        rw [Int.toNat_natCast]
        refine lc_it (walk_range (lo := 0) (n := m)) (fun i H6 => Same H5 H6 ∧ H6 D2 = some (.lst (((List.range i).map (nm1 f a)).map V.str))) ⟨Same.upd nD2, upd_same⟩ (fun _ _ _ _ => trivial) ?_ (fun H6 ⟨s6, h6⟩ => fin _ D2 H6 (names1 hm f0 f1) nD2 s6 h6)
        rintro i x H6 H7 hi' ⟨s6, hD6⟩ ⟨rfl, hx⟩
        replace hx : x = V.int i := hx.trans (by show V.int (0 + (i : Int)) = _; rw [Int.zero_add])
        subst hx
        refine ⟨rfl, ?_⟩
        have r2 := md (x := (a : Int) + i) (k := 8) (by decide)
        refine ⟨_, rfl, _, rfl, sgS, _, _, rfl, rfl, by rw [sg_len]; decide, sg_at f0 f1, ?_⟩
        refine ⟨_, rfl, _, rfl, _, _, rfl, rfl, _, _, rfl, rfl, (by show (0 : Int) < 8; decide), _, _, rfl, rfl, chr f, (1 + (((a : Int) + i) % 8).toNat), rfl, by simp only [V.int.injEq]; omega, by omega, by omega, by rw [chr_len]; decide, ?_⟩
        exact lps (nm1 f a) D2 i _ nD2 hi' s6 hD6
      · rintro σ H6 ⟨rfl, rfl⟩
        refine ⟨_, rfl, _, rfl, by omega, by omega, fun D2 nD2 => ?_⟩
        rw [Int.toNat_natCast]
        have hal : a ≤ st.length := by omega
        refine lc_it (walk_range (lo := 0) (n := m)) (fun i H6 => Same H5 H6 ∧ H6 D2 = some (.lst (((List.range i).map (nm2 st f a)).map V.str))) ⟨Same.upd nD2, upd_same⟩ (fun _ _ _ _ => trivial) ?_ (fun H6 ⟨s6, h6⟩ => fin _ D2 H6 (names2 hm hal j1 (by omega)) nD2 s6 h6)
        rintro i x H6 H7 hi' ⟨s6, hD6⟩ ⟨rfl, hx⟩
        replace hx : x = V.int i := hx.trans (by show V.int (0 + (i : Int)) = _; rw [Int.zero_add])
        subst hx
        refine ⟨rfl, ?_⟩
        have r1 := md (x := f + 5 * i) (k := 26) (by decide)
        have z1 : (cutS st none (some (a : Int))).length ≤ 7 := by rw [len_tl, tl_cut_to st hal, List.length_take]; omega
        have z2 : (cutS st (some (a : Int)) none).length ≤ 7 := by rw [len_tl, tl_cut_from st hal, List.length_drop, ← len_tl]; omega
        refine ⟨_, rfl, _, rfl, _, rfl, st, rfl, by rw [sizeLine_eq]; omega, ?_⟩
        refine ⟨_, rfl, _, rfl, _, rfl, _, _, rfl, rfl, .inl ⟨by omega, by omega⟩, _, _, rfl, rfl, _, _, rfl, rfl, (by show (0 : Int) < 26; decide), sgS, _, _, rfl, rfl, by rw [sg_len]; decide, sg_at r1.1 r1.2, ?_⟩
        refine ⟨_, chr ((f + 5 * i) % 26), rfl, rfl, by rw [chr_len, sizeLine_eq]; omega, ?_⟩
        refine ⟨_, rfl, _, rfl, _, rfl, st, rfl, by rw [sizeLine_eq]; omega, ?_⟩
        refine ⟨_, _, rfl, rfl, by rw [Str.length_append, chr_len, sizeLine_eq]; omega, ?_⟩
        exact lps (nm2 st f a) D2 i _ nD2 hi' s6 hD6
end
end My

namespace My
open PySem PySem.Spec PyProof.Rows L2
/-! ### sorted(d), d a dict with keys (int, str) -/
theorem perm_lift {α β : Type} {f : α → β} {l l' : List β} (h : l.Perm l') : ∀ m : List α, l' = m.map f → ∃ m' : List α, m'.Perm m ∧ l = m'.map f := by
  induction h with
  | nil => intro m e; cases m with | nil => exact ⟨[], .refl _, rfl⟩ | cons _ _ => cases e
  | cons x _ ih =>
    intro m e
    cases m with
    | nil => cases e
    | cons a r =>
      injection e with e1 e2
      obtain ⟨m', p, q⟩ := ih r e2
      exact ⟨a :: m', p.cons a, by rw [List.map_cons, ← q, e1]⟩
  | swap x y l =>
    intro m e
    cases m with
    | nil => cases e
    | cons a r =>
      cases r with
      | nil => cases e
      | cons b r =>
        injection e with e1 e2
        injection e2 with e2 e3
        exact ⟨b :: a :: r, .swap _ _ _, by rw [List.map_cons, List.map_cons, e1, e2, e3]⟩
  | trans _ _ ih1 ih2 =>
    intro m e
    obtain ⟨m1, p1, q1⟩ := ih2 m e
    obtain ⟨m2, p2, q2⟩ := ih1 m1 q1
    exact ⟨m2, p2.trans p1, q2⟩
def pk (q : Int × Str) : List Key := [.inl q.1, .inr q.2]
def pv2 (q : Int × Str) : List V := [.int q.1, .str q.2]
theorem pk_kv (q : Int × Str) : (pk q).map kV = pv2 q := rfl
def Tp (h : Heap) (b : Addr) (q : Int × Str) : Prop := ∃ t u o n, h.get? b = some o ∧ o.cls = .type "tuple" ∧ o.data = .seq #[.int q.1 t, .str q.2 u] n
theorem Tp.keep {h h' : Heap} {b : Addr} {q : Int × Str} (k : ∀ o, h.get? b = some o → h'.get? b = some o) (x : Tp h b q) : Tp h' b q := by
  obtain ⟨t, u, o, n, ho, r⟩ := x
  exact ⟨t, u, o, n, k o ho, r⟩
theorem tups_of {h : Heap} : ∀ {zs : List (Addr × Int × Str)}, (∀ z ∈ zs, Tp h z.1 z.2) → ∃ fs, TupsOf h PyProof.Rows.G.sh1 (zs.map fun z => Value.ref z.1) fs
  | [], _ => ⟨[], .nil⟩
  | z :: zs, hz => by
    obtain ⟨fs, hf⟩ := tups_of fun y hy => hz y (List.mem_cons_of_mem _ hy)
    obtain ⟨t, u, o, n, ho, hc, hd⟩ := hz z List.mem_cons_self
    exact ⟨_, .cons ⟨z.1, o, _, n, rfl, ho, hc, hd, rfl, fun _ => ⟨_, _, rfl⟩, fun e => absurd e (by decide)⟩ hf⟩
section
variable {X : Cx} {pins : List (Addr × Obj)} {σ : L2.St} {H : Hp} {s : Shared}
theorem tp_of (I : Inv X pins σ H s) {b : Addr} {q : Int × Str} (h : H b = some (.tup (pv2 q))) : Tp s.heap b q := by
  obtain ⟨_, its, r, o, ho, hc, n, hd⟩ := I.hok b _ h
  cases r with
  | cons r1 r2 =>
    cases r2 with
    | cons r2 r3 =>
      cases r3
      obtain ⟨t, rfl⟩ := r1
      obtain ⟨u, rfl⟩ := r2
      exact ⟨t, u, o, n, ho, hc, hd⟩
theorem paired_zs {H : Hp} : ∀ {kvs : List (List Key × V)} {xs : List (List Key × Addr × Value)} {ps : List (Int × Str)}, Paired (fun (p : List Key × V) (q : List Key × Addr × Value) => p.1 = q.1 ∧ H q.2.1 = some (.tup (p.1.map kV)) ∧ RelV p.2 q.2.2) kvs xs → kvs.map (·.1) = ps.map pk →
    ∃ zs : List (Addr × Int × Str), zs.map (·.2) = ps ∧ (∀ z ∈ zs, H z.1 = some (.tup (pv2 z.2))) ∧ zs.map (fun z => Value.ref z.1) = xs.map fun q => Value.ref q.2.1
  | _, _, [], .nil, _ => ⟨[], rfl, (fun _ h => nomatch h), rfl⟩
  | _, _, _ :: _, .nil, e => nomatch e
  | _, _, [], .cons _ _, e => nomatch e
  | (k, v) :: kvs, x :: xs, q :: ps, .cons ⟨h1, h2, _⟩ t, e => by
    injection e with e1 e2
    obtain ⟨zs, g1, g2, g3⟩ := paired_zs t e2
    have e1' : k = pk q := e1
    subst e1'
    refine ⟨(x.2.1, q) :: zs, by rw [List.map_cons, g1], fun z hz => ?_, by rw [List.map_cons, List.map_cons, g3]⟩
    rcases List.mem_cons.mp hz with rfl | hz
    · exact h2
    · exact g2 z hz
def rSortP : List V → Hp → VK → Prop := fun xs H Q => ∃ (a : Addr) (kvs : List (List Key × V)) (ps : List (Int × Str)), xs = [.ref a] ∧ H a = some (.dT kvs) ∧ kvs.map (·.1) = ps.map pk ∧
    ∀ (zs : List (Addr × Int × Str)) (p : Addr), (zs.map (·.2)).Perm ps → (∀ z ∈ zs, H z.1 = some (.tup (pv2 z.2))) → H p = none → Q (.ref p) (upd H p (.lst (zs.map fun z => V.ref z.1)))
theorem vals_refs : ∀ zs : List (Addr × Int × Str), Vals (zs.map fun z => V.ref z.1) (zs.map fun z => Value.ref z.1)
  | [] => .nil
  | _ :: zs => .cons rfl (vals_refs zs)
theorem call_sortedDT (hcalm : X.calm = true) : CallR X (.builtin "sorted") rSortP := by
  intro pins s σ H xs us Q I r q
  obtain ⟨a, kvs, ps, ex, hd, hks, q⟩ := q
  subst ex
  obtain ⟨u, eu, rx⟩ := vals1 r
  subst eu
  cases rx
  obtain ⟨z, lo, xs, pr, o, es, ep, ho, hx, hdat, hes, nd⟩ := I.hok a _ hd
  obtain ⟨zs, y1, y2, y3⟩ := paired_zs pr hks
  have hlx : es.size = zs.length := by
    rw [← Array.length_toList, hes, List.length_map]
    have := congrArg List.length y3
    rw [List.length_map, List.length_map] at this
    exact this.symm
  have hlk : zs.length = kvs.length := by
    have e1 := congrArg List.length y1
    have e2 := congrArg List.length hks
    rw [List.length_map] at e1
    rw [List.length_map, List.length_map] at e2
    omega
  have h16 : es.size ≤ sizeLine := by rw [hlx, hlk]; exact z
  refine Calls.call_function_entry PyProof.Rows.kind_sorted PyProof.Rows.plain_sorted PyProof.Rows.entry_sorted (PyProof.Rows.args_sorted1 _) ?_
  unfold Builtin.«sorted»
  refine wpAny_bind (m := checkCount "sorted" 1 1 _) (wpAny_pure ?_)
  refine wpAny_bind (PySem.W.kdu_collect (A := X.A.in1) (KdlSrc.rawDict (es := es) (ep := ep) lo) (I.ok.hd hcalm) ⟨o, ho, hx, hdat⟩ h16 fun h' tk acc hk hacc => ?_)
  have hacc2 : acc.toList = zs.map fun z => Value.ref z.1 := by
    refine List.ext_getElem? fun j => ?_
    rw [y3]
    have e0 : (es.toList)[j]? = (xs.map (entryOfKey (tupleKind (mixKind X.prog X.w))))[j]? := by rw [hes]
    rw [Array.getElem?_toList, List.getElem?_map] at e0
    rw [Array.getElem?_toList, List.getElem?_map]
    cases hj : acc[j]? with
    | none =>
      have : acc.size ≤ j := Array.getElem?_eq_none_iff.mp hj
      rw [hacc.1] at this
      rw [Array.getElem?_eq_none this] at e0
      cases hxj : xs[j]? with
      | none => rfl
      | some _ => rw [hxj] at e0; cases e0
    | some v =>
      obtain ⟨hi, hv⟩ := hacc.2 j v hj
      rw [Array.getElem?_eq_getElem hi] at e0
      cases hxj : xs[j]? with
      | none => rw [hxj] at e0; cases e0
      | some w' =>
        rw [hxj] at e0
        have e1 := Option.some.inj e0
        rw [hv, e1]; rfl
  have hal : acc.toList.length = zs.length := by rw [hacc2, List.length_map]
  have I1 : Inv X pins σ H { s with heap := h', toks := tk } := I.kept hk
  refine wpAny_bind (wpAny_newList ?_ (by rw [hal, hlk]; exact z))
  have hoL : (h'.push (seqObj "list" acc.toList.toArray 0)).get? h'.objs.size = some (seqObj "list" acc.toList.toArray 0) := Heap.get?_push_size _ rfl
  show wpAny _ _ _ _ _ { s with heap := h'.push (seqObj "list" acc.toList.toArray 0), toks := tk }
  have hT : ∀ z ∈ zs, Tp (h'.push (seqObj "list" acc.toList.toArray 0)) z.1 z.2 := fun z hz => Tp.keep (fun o e => Heap.get?_push_of_some _ e) (tp_of I1 (y2 z hz))
  obtain ⟨fs, hfs⟩ := tups_of hT
  rw [← hacc2] at hfs
  refine wpAny_bind (wpAny_holding (wpAny_call_entry PyProof.Rows.slot_list_sort ⟨_, hoL, rfl⟩ PyProof.Rows.entry_list_sort
    (PyProof.Rows.G.list_sort_tups (shape := PyProof.Rows.G.sh1) (fs := fs) (s := { s with heap := h'.push (seqObj "list" acc.toList.toArray 0), toks := tk }) hoL hfs (fun v hv => ?_) (by rw [hal, hlk]; exact z) fun st' hp hs _ => ⟨_, rfl, ?_⟩)
    (PyProof.Rows.args_list_sort _)))
  · rw [hacc2] at hv
    obtain ⟨z, hz, rfl⟩ := List.mem_map.mp hv
    obtain ⟨t, u, o, n, ho, hc, hd⟩ := hT z hz
    exact ⟨_, PyProof.Rows.G.tupKeyC_of ho hc hd (PyProof.Rows.G.two_items rfl)⟩
  have hpm : ((arrOf st').map (·.2)).toList.Perm (zs.map fun z => Value.ref z.1) := by
    have e := Array.perm_iff_toList_perm.mp hp
    rw [pairsOf_toList] at e
    have e2 := e.map (·.2)
    rw [hacc2] at e2
    rw [Array.toList_map]
    refine e2.trans (List.Perm.of_eq ?_)
    rw [List.map_snd_zip (Nat.le_refl _)]
  obtain ⟨zs', g1, g2⟩ := perm_lift hpm zs rfl
  obtain ⟨e', he'⟩ := PyProof.Rows.sortedHeap_at (vs := acc.toList) (out := (arrOf st').map (·.2)) hoL
  have hlen : (zs'.map fun z => V.ref z.1).length ≤ sizeLine := by
    rw [List.length_map, g1.length_eq, hlk]
    exact z
  refine wpAny_pure ⟨_, rfl, .ref h'.objs.size, upd H h'.objs.size (.lst (zs'.map fun z => V.ref z.1)), I1.laid (t' := tk) (fun b u e => ?_) (Nat.le_refl _)
    (show ObjOk X.prog X.w _ _ _ (.lst (zs'.map fun z => V.ref z.1)) from ⟨hlen, ((arrOf st').map (·.2)).toList, e', by rw [g2]; exact vals_refs zs', by rw [Array.toArray_toList]; exact he'⟩), rfl, q zs' _ ?_ (fun z hz => y2 z (g1.mem_iff.mp hz)) (I1.hok.fresh (Nat.le_refl _))⟩
  · have hb : b < h'.objs.size := Heap.lt_size e
    rw [PyProof.Rows.sortedHeap_old (Nat.ne_of_lt hb) (by rw [size_push']; exact Nat.lt_succ_of_lt hb)]
    exact Heap.get?_push_of_some _ e
  · rw [← y1]; exact g1.map _
end
end My

namespace My
open PySem PySem.Spec PyProof.Rows L2
/-! ### dict(l), l a list of pairs ((int, str), True) -/
def mergeT (kvs more : List (List Key × V)) : List (List Key × V) := more.foldl (fun acc kv => putK acc kv.1 kv.2) kvs
structure KeysIn (S : Int × Str → Prop) (n : Nat) (kvs : List (List Key × V)) : Prop where
  ex : ∃ ps : List (Int × Str), kvs.map (·.1) = ps.map pk ∧ (∀ q ∈ ps, S q) ∧ ps.length ≤ n
theorem KeysIn.nil {S : Int × Str → Prop} : KeysIn S 0 [] := ⟨[], rfl, (fun _ h => nomatch h), Nat.le_refl _⟩
theorem KeysIn.put {S : Int × Str → Prop} {n : Nat} {kvs : List (List Key × V)} (h : KeysIn S n kvs) {q : Int × Str} (hq : S q) (v : V) : KeysIn S (n + 1) (putK kvs (pk q) v) := by
  obtain ⟨ps, h1, h2, h3⟩ := h.ex
  unfold putK
  by_cases c : (kvs.any fun kv => decide (kv.1 = pk q)) = true
  · rw [if_pos c]
    refine ⟨ps, ?_, h2, by omega⟩
    rw [← h1, List.map_map]
    refine List.map_congr_left fun kv _ => ?_
    show (if kv.1 = pk q then (kv.1, v) else kv).1 = kv.1
    by_cases e : kv.1 = pk q
    · rw [if_pos e]
    · rw [if_neg e]
  · rw [if_neg c]
    refine ⟨ps ++ [q], by rw [List.map_append, List.map_append, h1]; rfl, fun x hx => ?_, by rw [List.length_append]; simpa using h3⟩
    rcases List.mem_append.mp hx with hx | hx
    · exact h2 x hx
    · rw [List.mem_singleton.mp hx]; exact hq
theorem KeysIn.merge {S : Int × Str → Prop} (v : V) : ∀ {L : List (Int × Str)} {n : Nat} {kvs : List (List Key × V)}, KeysIn S n kvs → (∀ q ∈ L, S q) → KeysIn S (n + L.length) (mergeT kvs (L.map fun q => (pk q, v)))
  | [], n, kvs, h, _ => h
  | q :: L, n, kvs, h, hL => by
    have := KeysIn.merge v (L := L) (h.put (hL q List.mem_cons_self) v) fun x hx => hL x (List.mem_cons_of_mem _ hx)
    rw [List.length_cons, show n + (L.length + 1) = n + 1 + L.length by omega]
    exact this
theorem KeysIn.len {S : Int × Str → Prop} {n : Nat} {kvs : List (List Key × V)} (h : KeysIn S n kvs) : kvs.length ≤ n := by
  obtain ⟨ps, h1, _, h3⟩ := h.ex
  have := congrArg List.length h1
  rw [List.length_map, List.length_map] at this
  omega
theorem KT.merge {H : Hp} : ∀ {zs : List (Addr × Addr × (Int × Str))} {kvs : List (List Key × V)} {xs : List (List Key × Addr × Value)}, KT H kvs xs → (∀ z ∈ zs, H z.2.1 = some (.tup (pv2 z.2.2))) →
    KT H (mergeT kvs (zs.map fun z => (pk z.2.2, V.bl true))) (PySem.storedAllH xs (zs.map fun z => (pk z.2.2, z.2.1, Value.bool true)))
  | [], _, _, h, _ => h
  | z :: zs, kvs, xs, h, hz => KT.merge (zs := zs) (KT.put h (pk z.2.2) (hz z List.mem_cons_self) (show RelV (.bl true) (.bool true) from rfl)) fun y hy => hz y (List.mem_cons_of_mem _ hy)
def rDictTP (K : PySem.W.Frag) : List V → Hp → VK → Prop := fun xs H Q => ∃ (a : Addr) (zs : List (Addr × Addr × (Int × Str))), xs = [.ref a] ∧ SqL K H a (zs.map fun z => V.ref z.1) ∧ (∀ z ∈ zs, H z.1 = some (.tup [.ref z.2.1, .bl true]) ∧ H z.2.1 = some (.tup (pv2 z.2.2))) ∧ zs.length ≤ 1000 ∧
  ∀ p, H p = none → Q (.ref p) (upd H p (.dT (mergeT [] (zs.map fun z => (pk z.2.2, .bl true)))))
section
variable {X : Cx}
theorem call_dictTP (hcalm : X.calm = true) (hu : X.A.units + 64 < cLine) : CallR X (.type "dict") (rDictTP X.K) := by
  intro pins s σ H xs us Q I r q
  obtain ⟨a, zs, ex, hq, hz, hz0, q⟩ := q
  subst ex
  obtain ⟨u, eu, rx⟩ := vals1 r
  subst eu
  cases rx
  obtain ⟨its, rv, pl, hsz⟩ := I.list hq
  obtain ⟨o, n, ho, hc, hd, hdat⟩ := pl
  have ei : its = zs.map fun z => Value.ref z.1 := by
    have := refs_at (ps := zs.map (·.1)) (us := its) (by rw [List.map_map]; exact rv)
    rw [this, List.map_map]; rfl
  subst ei
  have hnew : ∀ b, H b ≠ none → b ≠ s.heap.objs.size := fun b h e => h (by rw [e]; exact I.hok.fresh (Nat.le_refl _))
  refine PySem.call_dict_pairsH (knd := tupleKind (mixKind X.prog X.w)) (ps := zs.map fun z => (pk z.2.2, z.2.1, Value.bool true))
    (PySem.PairArg.list a (zs.map fun z => Value.ref z.1).toArray (fun j => ((zs[j]?).map (·.1)).getD 0) (zs.map fun z => (Value.ref z.2.1, Value.bool true))) (I.ok.hd hcalm) (show X.A.in1.in1.units < cLine by show X.A.units + 1 + 1 < cLine; omega)
    ⟨⟨o, n, ho, hc, hd, hdat⟩, ?_⟩ ⟨by rw [List.length_map, List.length_map], fun i key v e => ?_⟩ (fun h' hk x hx => ?_) (by rw [List.length_map, sizeLine_eq]; omega) fun h' tk hd' hk => ?_
  · refine ⟨by simp, fun j k v e => ?_⟩
    rw [List.getElem?_map] at e
    cases ez : zs[j]? with
    | none => rw [ez] at e; cases e
    | some z =>
      rw [ez] at e
      have e := Option.some.inj e
      cases e
      refine ⟨by simp [ez], .inl ?_⟩
      obtain ⟨_, its, rv2, o2, ho2, hc2, n2, hd2⟩ := I.hok _ _ (hz z (List.mem_of_getElem? ez)).1
      obtain ⟨x1, x2, ei2, r1, r2⟩ := vals2 rv2
      subst ei2
      cases r1; cases r2
      exact ⟨o2, (by show s.heap.get? (((zs[j]?).map (·.1)).getD 0) = _; rw [ez]; exact ho2), hc2, n2, hd2⟩
  · have e' : (zs.map fun z => (Value.ref z.2.1, Value.bool true))[i]? = some (key, v) := e
    rw [List.getElem?_map] at e'
    cases ez : zs[i]? with
    | none => rw [ez] at e'; cases e'
    | some z =>
      rw [ez] at e'
      have e' := Option.some.inj e'
      cases e'
      exact ⟨pk z.2.2, z.2.1, by rw [List.getElem?_map, ez]; rfl, rfl⟩
  · obtain ⟨z, hzm, rfl⟩ := List.mem_map.mp hx
    have h2 := (hz z hzm).2
    obtain ⟨o3, its3, n3, g1, g2⟩ := key_of (P := X.prog) (w := X.w) (ks := pk z.2.2) I.hok h2
    exact ⟨o3, its3, n3, hk _ _ (hnew _ (by rw [h2]; exact fun y => nomatch y)) (by simp) g1, g2⟩
  · obtain ⟨od, es, ep, hod, h2, h3, h4, _, h5⟩ := hd'
    have hm : (s.heap.objs.size == sysModules) = false := beq_eq_false_iff_ne.mpr (Nat.ne_of_gt I.big)
    have kin := (KeysIn.nil (S := fun _ => True)).merge (.bl true) (L := zs.map fun z => z.2.2) fun q hq => trivial
    rw [List.map_map] at kin
    have hlen : (mergeT [] (zs.map fun z => (pk z.2.2, V.bl true))).length ≤ sizeLine := by
      have := kin.len
      rw [List.length_map] at this
      rw [sizeLine_eq]
      refine Nat.le_trans this (by omega)
    have rel : KT H (mergeT [] (zs.map fun z => (pk z.2.2, V.bl true))) (PySem.storedAllH [] (zs.map fun z => (pk z.2.2, z.2.1, Value.bool true))) := KT.merge .nil fun z hzm => (hz z hzm).2
    refine ⟨.ref s.heap.objs.size, upd H s.heap.objs.size (.dT (mergeT [] (zs.map fun z => (pk z.2.2, V.bl true)))), I.laid (t' := tk) (fun b o e => hk b o (by simp) e) (Nat.le_refl _) ⟨hlen, hm, _, rel.keeps fun c ys ec => ?_, od, es, ep, hod, h2, h3, h4, h5⟩, rfl, q _ (I.hok.fresh (Nat.le_refl _))⟩
    rw [upd_ne (hnew c (by rw [ec]; exact fun y => nomatch y))]
    exact ec
end
end My

namespace My
open PySem PySem.Spec PyProof.Rows L2
abbrev sRow : Stmt := topS 31
/-! ### the pen moves, what stands grows, tuples may come to stand -/
def NoTup (o : Option HO) : Prop := o ≠ none ∧ ∀ ys, o ≠ some (.tup ys)
def IsL (o : Option HO) : Prop := ∃ xs, o = some (.lst xs)
structure Mw (p : Addr) (G H G' H' : Hp) : Prop where
  gg : Same G G'
  gh : Same G' H'
  bt : But p H H'
  pl : IsL (H p)
  pl' : IsL (H' p)
  old : ∀ c, NoTup (H c) → G' c = G c
theorem IsL.nt {o : Option HO} (h : IsL o) : NoTup o := by
  obtain ⟨xs, rfl⟩ := h
  exact ⟨(fun z => nomatch z), fun ys z => nomatch z⟩
theorem PenC.isL {H : Hp} {p pc : Addr} {t : Nat} (P : PenC H p pc t) : IsL (H p) := by
  obtain ⟨cells, x, y, h, _⟩ := P.ex
  exact ⟨_, h⟩
theorem NoTup.but {p c : Addr} {H H' : Hp} (b : But p H H') (l : IsL (H' p)) (h : NoTup (H c)) : NoTup (H' c) := by
  by_cases e : c = p
  · rw [e]; exact l.nt
  · cases q : H c with
    | none => exact absurd q h.1
    | some o => rw [b c o e q, ← q]; exact h
theorem Mw.trans {p : Addr} {G H G1 H1 G2 H2 : Hp} (a : Mw p G H G1 H1) (b : Mw p G1 H1 G2 H2) : Mw p G H G2 H2 :=
  ⟨a.gg.trans b.gg, b.gh, a.bt.trans b.bt, a.pl, b.pl', fun c h => by rw [b.old c (h.but a.bt a.pl'), a.old c h]⟩
theorem Mw.gp {p : Addr} {G H G1 H1 : Hp} (a : Mw p G H G1 H1) (n : G p = none) : G1 p = none := by rw [a.old p a.pl.nt]; exact n
theorem Mw.keep {p c : Addr} {G H G1 H1 : Hp} (a : Mw p G H G1 H1) (h : IsL (H c)) (n : G c = none) : G1 c = none := by rw [a.old c h.nt]; exact n
theorem Mw.take {p pc : Addr} {G H H1 : Hp} {t u : Nat} (e : Same G H) (n : G p = none) (P : PenC H p pc t) (P1 : PenC H1 p pc u) (b : But p H H1) : Mw p G H G H1 :=
  ⟨Same.refl G, same_but e n b, b, P.isL, P1.isL, fun _ _ => rfl⟩
theorem Mw.nw {p pc : Addr} {G H G1 H1 : Hp} {t : Nat} (m : Nw G H G1 H1) (P : PenC H p pc t) : Mw p G H G1 H1 := by
  obtain ⟨xs, h⟩ := P.isL
  exact ⟨m.gg, m.gh, But.of m.hh, ⟨xs, h⟩, ⟨xs, m.hh _ _ h⟩, fun c hc => m.old c hc.1⟩
theorem Mw.more {p : Addr} {G H G1 H1 H2 : Hp} (m : Mw p G H G1 H1) (s : Same H1 H2) : Mw p G H G1 H2 := by
  obtain ⟨xs, h⟩ := m.pl'
  exact ⟨m.gg, m.gh.trans s, m.bt.trans (But.of s), m.pl, ⟨xs, s _ _ h⟩, m.old⟩
def alls (G H : Hp) : Hp := fun c => match H c with | some (.tup ys) => some (.tup ys) | _ => G c
theorem alls_tup {G H : Hp} {c : Addr} {ys : List V} (h : H c = some (.tup ys)) : alls G H c = some (.tup ys) := by unfold alls; rw [h]
theorem alls_no {G H : Hp} {c : Addr} (h : ∀ ys, H c ≠ some (.tup ys)) : alls G H c = G c := by
  unfold alls
  split
  · rename_i ys e; exact absurd e (h ys)
  · rfl
theorem alls_gg {G H : Hp} (e : Same G H) : Same G (alls G H) := fun c o h => by
  have h1 := e c o h
  cases o with
  | tup ys => exact alls_tup h1
  | _ => rw [alls_no (fun ys z => by rw [h1] at z; cases z)]; exact h
theorem alls_gh {G H : Hp} (e : Same G H) : Same (alls G H) H := fun c o h => by
  by_cases q : ∃ ys, H c = some (.tup ys)
  · obtain ⟨ys, hy⟩ := q
    rw [alls_tup hy] at h
    rw [hy]; exact h
  · rw [alls_no (fun ys z => q ⟨ys, z⟩)] at h
    exact e c o h
theorem Mw.all {p : Addr} {G H G1 H1 : Hp} (m : Mw p G H G1 H1) : Mw p G H (alls G1 H1) H1 :=
  ⟨m.gg.trans (alls_gg m.gh), alls_gh m.gh, m.bt, m.pl, m.pl', fun c h => by rw [alls_no (h.but m.bt m.pl').2, m.old c h]⟩
/-! ### rows -/
def rowD (row : List (Int × Str)) : PyData := .tuple (row.map fun q => .tuple [.int q.1, .str q.2])
def InB (b : Int) (ns : List Str) (q : Int × Str) : Prop := 0 ≤ q.1 ∧ q.1 < b ∧ q.2 ∈ ns
structure RowIn (b : Int) (ns : List Str) (most : Nat) (row : List (Int × Str)) : Prop where
  mem : ∀ q ∈ row, InB b ns q
  len : row.length ≤ most
def spRow (K : PySem.W.Frag) : Sp := fun vs H Q _ => ∃ (p pc ln : Addr) (b : Int) (ns : List Str) (most t : Nat) (G : Hp), vs = [.ref p, .int b, .ref ln, .int most] ∧ 2 ≤ b ∧ b ≤ 10 ∧ ns ≠ [] ∧ ns.length ≤ 8 ∧ most ≤ 12 ∧ PenC H p pc t ∧ t + 40 < 2 ^ 29 ∧
  Same G H ∧ G p = none ∧ ln ≠ p ∧ H ln = some (.lst (ns.map V.str)) ∧
  ∀ (v : V) (row : List (Int × Str)) (G' H' : Hp), Mw p G H G' H' → PenC H' p pc (t + 1 + 2 * most) → Dq K G' v (rowD row) → RowIn b ns most row → Q v H'
structure TxR (mg : Str → Option Value) : Prop where
  len : mg "len" = none
  range : mg "range" = none
  tuple : mg "tuple" = none
  sorted : mg "sorted" = none
theorem dq_pair2 {K : PySem.W.Frag} {G : Hp} {a : Addr} {q : Int × Str} (h : G a = some (.tup (pv2 q))) : Dq K G (.ref a) (.tuple [.int q.1, .str q.2]) := .tup h (.cons (.int _) (.cons (.str _) .nil))
theorem dq_zs {K : PySem.W.Frag} {G : Hp} : ∀ {zs : List (Addr × Int × Str)}, (∀ z ∈ zs, G z.1 = some (.tup (pv2 z.2))) → DqAll K G (zs.map fun z => V.ref z.1) ((zs.map (·.2)).map fun q => .tuple [.int q.1, .str q.2])
  | [], _ => .nil
  | z :: zs, h => .cons (dq_pair2 (h z List.mem_cons_self)) (dq_zs fun y hy => h y (List.mem_cons_of_mem _ hy))
theorem str_at {ns : List Str} {i : Int} (h0 : 0 ≤ i) (h1 : i < ns.length) : ∃ x : Str, x ∈ ns ∧ atI (ns.map V.str) i = some (.str x) := by
  obtain ⟨j, rfl⟩ : ∃ j : Nat, i = (j : Int) := ⟨i.toNat, by omega⟩
  have hj : j < ns.length := by omega
  exact ⟨ns[j], List.getElem_mem hj, atI_nat (by rw [List.getElem?_map, List.getElem?_eq_getElem hj]; rfl)⟩
section
variable {P : Program} {w : World} {K : PySem.W.Frag} {mg : Str → Option Value} {base : Heap}
theorem scRow : FnScope ["pen", "base", "names", "most", "found", "turn"] ["pen", "base", "names", "most"] (defScope sRow) := ⟨rfl, rfl, rfl, by decide +kernel, rfl, by decide +kernel, by decide +kernel⟩
theorem ok_row {f fT : Addr} {fd fdT : FuncData} (F : Fun K "_law_row" "_law_row" sRow f fd) (T : TxR mg)
    (FT : Fun K "_law_take" "_law_take" sTake fT fdT) (GT : FnOk P w K mg base CX0 2 fT fdT ["pen", "many"] spTakeC) (bT : Binds K fdT ["pen", "many"] []) (gT : mg "_law_take" = some (.ref fT)) :
    FnOk P w K mg base CX0 3 f fd ["pen", "base", "names", "most"] (spRow K) := by
  refine F.ok scRow (fun vs H Q E h => ?_) (fun cdv A outer s H vs Q E hr h => ?_)
  · obtain ⟨p, pc, ln, b, ns, most, t, G, rfl, _⟩ := h
    rfl
  · obtain ⟨p, pc, ln, b, ns, most, t, G, rfl, b0, b1, n0, n8, hmo, PC, ht, e, np, lp, hln, k⟩ := h
    have hr2 := hr
    have hu := Nat.lt_trans (Nat.add_lt_add_left (show 1 < 64 by decide) _) hr.units
    have nl0 : 0 < ns.length := List.length_pos_iff.mpr n0
    refine ⟨_, (pss_cons (ps_set (i := 4) scRow.nd rfl (Or.inl rfl) pe_dnewT)
      (pss_cons (ps_for PassesOwn.never rfl (pi_range1 (by rfl) T.range (pa_cons (pe_call GT hr2 (by rfl) gT FT.kp bT .nil pass0 (pa_cons (pv 0) (pa_cons (pe_op op_add (pv 3) pe_int) pa_nil))) pa_nil)) (pg_name (i := 5) scRow.nd rfl (Or.inl rfl)) (pss_one (ps_dput hu (pv 4) (pe_tup (pa_cons (pe_call GT hr2 (by rfl) gT FT.kp bT .nil pass0 (pa_cons (pv 0) (pa_cons (pv 1) pa_nil))) (pa_cons (pe_ix ix_list (pv 2) (pe_call GT hr2 (by rfl) gT FT.kp bT .nil pass0 (pa_cons (pv 0) (pa_cons (pe_callB call_len_seq (by rfl) T.len PySem.boot_len (pa_cons (pv 2) pa_nil)) pa_nil))) (fun _ _ => rfl)) pa_nil))) pe_bl rfl)))
      (pss_one (ps_ret (pe_callTy call_tuple_of (by rfl) T.tuple boot_tuple (pa_cons (pe_callB (call_sortedDT rfl) (by rfl) T.sorted boot_sorted (pa_cons (pv 4) pa_nil)) pa_nil)))))), ?_⟩
    intro d nd
    have dp : d ≠ p := pen_not PC.any nd
    have dc : d ≠ pc := fun z => PC.at_c (by rw [← z]; exact nd)
    have dl : d ≠ ln := fun z => by rw [← z, nd] at hln; cases hln
    have P0 := PC.upd dp dc (Nat.le_refl _) (.dT [])
    refine ⟨_, rfl, _, rfl, _, _, rfl, rfl, p, pc, _, t, rfl, by omega, small_int (by omega) (by omega), P0, by omega, fun m H1 m0 m1 b1' P1 => ?_⟩
    obtain ⟨c, rfl⟩ : ∃ c : Nat, m = (c : Int) := ⟨m.toNat, by omega⟩
    refine ⟨_, rfl, by omega, by omega, ?_⟩
    rw [Int.toNat_natCast]
    refine for_it (walk_range (lo := 0) (n := c)) (fun i σ H2 => (∃ y : Option V, σ = [some (.ref p), some (.int b), some (.ref ln), some (.int most), some (.ref d), y]) ∧ PenC H2 p pc (t + 1 + 2 * i) ∧ But p H H2 ∧ i ≤ c ∧ ∃ kvs, H2 d = some (.dT kvs) ∧ KeysIn (InB b ns) i kvs)
      ⟨⟨none, rfl⟩, P1, (But.of (Same.upd nd)).trans b1', Nat.zero_le _, [], b1' _ _ dp upd_same, .nil⟩ (fun _ _ _ _ _ => trivial) ?_ ?_
    · rintro i x σ H2 H3 hi' ⟨⟨y, rfl⟩, P2, bt2, _, kvs, hd, hk⟩ ⟨rfl, rfl⟩
      refine ⟨_, rfl, _, rfl, _, rfl, p, pc, b, _, rfl, by omega, small_int (by omega) (by omega), P2, by omega, fun dg H4 d0 d1 b4 P4 => ?_⟩
      have ln4 := b4 _ _ lp (bt2 _ _ lp hln)
      refine ⟨_, rfl, _, rfl, _, rfl, ln, _, rfl, .inl (SqL.of ln4), p, pc, _, _, rfl, by rw [List.length_map]; omega, by rw [List.length_map]; exact small_nat (by omega), P4, by omega, fun ix H5 i0 i1 b5 P5 => ?_⟩
      rw [List.length_map] at i1
      obtain ⟨x, hx, hxa⟩ := str_at i0 i1
      have ln5 := b5 _ _ lp ln4
      refine ⟨ln, _, _, _, rfl, rfl, SqL.of ln5, hxa, (by show 2 ≤ sizeLine; decide), fun q nq => ?_⟩
      have hd5 := b5 _ _ dp (b4 _ _ dp hd)
      have qd : d ≠ q := ne_of_none hd5 nq
      have qp : q ≠ p := pen_not P5.any nq
      have qc : q ≠ pc := fun z => P5.at_c (by rw [← z]; exact nq)
      refine ⟨d, _, rfl, DPut.t (k := pk (dg, x)) (by rw [upd_ne qd]; exact hd5) upd_same (by have := hk.len; rw [sizeLine_eq]; omega), ⟨_, rfl⟩, (P5.upd qp qc (Nat.le_refl _) _).upd dp dc (by omega) _, ?_, by omega, _, upd_same, hk.put (q := (dg, x)) ⟨d0, d1, hx⟩ _⟩
      intro z o hz ho
      have hzd : z ≠ d := ne_of_none ho nd
      have h5 := b5 z o hz (b4 z o hz (bt2 z o hz ho))
      rw [upd_ne hzd, upd_ne (ne_of_none h5 nq)]
      exact h5
    · rintro σ H2 ⟨⟨y, rfl⟩, P2, bt2, _, kvs, hd, hk⟩
      obtain ⟨ps, k1, k2, k3⟩ := hk.ex
      refine ⟨_, rfl, d, kvs, ps, rfl, hd, k1, fun zs l hp hz nl => ?_⟩
      refine ⟨l, _, rfl, .inl ⟨SqL.of upd_same, fun q nq => ?_⟩⟩
      have m0 : Mw p G H G H2 := Mw.take e np PC P2 bt2
      have m1 := (m0.all).more (Same.upd nl (o := .lst (zs.map fun z => V.ref z.1)))
      have lq : l ≠ q := ne_of_none upd_same nq
      have m2 := m1.trans (Mw.nw (Nw.mk1 m1.gh nq (.tup (zs.map fun z => V.ref z.1))) (P2.same (Same.upd nl) (Nat.le_refl _)))
      refine k (.ref q) (zs.map (·.2)) _ _ m2 ((P2.same (Same.upd nl) (Nat.le_refl _)).same (Same.upd nq) (by omega)) ?_ ⟨fun x hx => k2 x (hp.mem_iff.mp hx), by rw [hp.length_eq]; omega⟩
      refine .tup upd_same (dq_zs fun z hzm => ?_)
      rw [upd_ne (fun w' => ?_)]
      · exact alls_tup (hz z hzm)
      · have h1 := (Same.upd nl (o := .lst (zs.map fun z => V.ref z.1))) _ _ (hz z hzm)
        rw [w', nq] at h1
        cases h1
end
end My

namespace My
open PySem PySem.Spec PyProof.Rows L2
/-! ### displays, by what stays -/
section
variable {X : Cx} {es : List Expr} {t : TA} {pos : Pos}
theorem paMono (h : PA X es t) : PA X es (fun σ H R => ∃ S : List V → Hp → Prop, t σ H S ∧ ∀ vs H1, S vs H1 → R vs H1) :=
  ⟨fun pos pins s σ H Q I ⟨S, h1, h2⟩ => thn (h.run pos pins s σ H S I h1) fun us s1 ⟨vs, H1, I1, r, q⟩ => ⟨vs, H1, I1, r, h2 _ _ q⟩⟩
def tTupS (t : TA) : TE := fun σ H Q => t σ H fun vs H1 => vs.length ≤ sizeLine ∧ ∀ q H2, Same H1 H2 → H2 q = some (.tup vs) → Q (.ref q) H2
def tLstS (t : TA) : TE := fun σ H Q => t σ H fun vs H1 => vs.length ≤ sizeLine ∧ ∀ q H2, Same H1 H2 → H1 q = none → H2 q = some (.lst vs) → Q (.ref q) H2
theorem pe_tupS {x1} (h : PA X es t) : PE X (.Tuple es x1 pos) (tTupS t) := PE.imp (pe_tup (paMono h)) fun _ _ _ q => ⟨_, q, fun _ _ z => ⟨z.1, fun p np => z.2 p _ (Same.upd np) upd_same⟩⟩
theorem pe_lstS (h : PA X es t) : PE X (.List es pos) (tLstS t) := PE.imp (pe_lst (paMono h)) fun _ _ _ q => ⟨_, q, fun _ _ z => ⟨z.1, fun p np => z.2 p _ (Same.upd np) np upd_same⟩⟩
end
end My

namespace My
open PySem PySem.Spec PyProof.Rows L2
abbrev sBook : Stmt := topS 32
/-- a list of pairs -/
structure PL (b : Int) (ns : List Str) (H : Hp) (a : Addr) : Prop where
  ex : ∃ zs : List (Addr × Int × Str), H a = some (.lst (zs.map fun z => .ref z.1)) ∧ (∀ z ∈ zs, H z.1 = some (.tup (pv2 z.2)) ∧ InB b ns z.2) ∧ zs.length ≤ 12
theorem PL.same {b : Int} {ns : List Str} {H H' : Hp} {a : Addr} (h : PL b ns H a) (e : Same H H') : PL b ns H' a := by
  obtain ⟨zs, h1, h2, h3⟩ := h.ex
  exact ⟨zs, e _ _ h1, fun z hz => ⟨e _ _ (h2 z hz).1, (h2 z hz).2⟩, h3⟩
theorem PL.one {b : Int} {ns : List Str} {H : Hp} {a q : Addr} {x : Int × Str} (h : H a = some (.lst [.ref q])) (h1 : H q = some (.tup (pv2 x))) (i : InB b ns x) : PL b ns H a :=
  ⟨[(q, x)], h, fun z hz => by rw [List.mem_singleton.mp hz]; exact ⟨h1, i⟩, by show 1 ≤ 12; decide⟩
theorem PL.two {b : Int} {ns : List Str} {H : Hp} {a q r : Addr} {x y : Int × Str} (h : H a = some (.lst [.ref q, .ref r])) (h1 : H q = some (.tup (pv2 x))) (h2 : H r = some (.tup (pv2 y))) (i : InB b ns x) (j : InB b ns y) : PL b ns H a :=
  ⟨[(q, x), (r, y)], h, fun z hz => by
    rcases List.mem_cons.mp hz with rfl | hz
    · exact ⟨h1, i⟩
    · rw [List.mem_singleton.mp hz]; exact ⟨h2, j⟩, by show 2 ≤ 12; decide⟩
theorem adr_at {as : List Addr} {i : Int} (h0 : 0 ≤ i) (h1 : i < as.length) : ∃ x : Addr, x ∈ as ∧ atI (as.map V.ref) i = some (.ref x) := by
  obtain ⟨j, rfl⟩ : ∃ j : Nat, i = (j : Int) := ⟨i.toNat, by omega⟩
  have hj : j < as.length := by omega
  exact ⟨as[j], List.getElem_mem hj, atI_nat (by rw [List.getElem?_map, List.getElem?_eq_getElem hj]; rfl)⟩
theorem Mw.own {p r : Addr} {G H G1 H1 : Hp} {o : HO} (m : Mw p G H G1 H1) (h : H r = none) (n : G1 r = none) (hp : r ≠ p) : Mw p G H G1 (upd H1 r o) := by
  refine ⟨m.gg, fun c u hc => ?_, fun c u n1 hc => ?_, m.pl, by rw [upd_ne hp.symm]; exact m.pl', m.old⟩
  · rw [upd_ne (ne_of_none hc n)]; exact m.gh c u hc
  · rw [upd_ne (ne_of_none hc h)]; exact m.bt c u n1 hc
theorem Mw.stand {p r : Addr} {G H G1 H1 : Hp} {o : HO} (m : Mw p G H G1 H1) (h : H r = none) (e : H1 r = some o) : Mw p G H (upd G1 r o) H1 := by
  refine ⟨fun c u hc => ?_, fun c u hc => ?_, m.bt, m.pl, m.pl', fun c hc => ?_⟩
  · by_cases z : c = r
    · subst z
      rw [upd_same]
      have := m.gh c u (m.gg c u hc)
      rw [e] at this
      exact this
    · rw [upd_ne z]; exact m.gg c u hc
  · by_cases z : c = r
    · subst z
      rw [upd_same] at hc
      rw [e]; exact hc
    · rw [upd_ne z] at hc; exact m.gh c u hc
  · rw [upd_ne (fun z => hc.1 (by rw [z]; exact h)), m.old c hc]
/-- a book -/
def bookD (b : Int) (ns : List Str) (rws : List (List (Int × Str))) : PyData := .tuple [.int b, .dict ((ns.zip rws).map fun z => (.str z.1, rowD z.2))]
structure BookOk (b : Int) (ns : List Str) (rws : List (List (Int × Str))) : Prop where
  b0 : 2 ≤ b
  b1 : b ≤ 10
  n0 : ns ≠ []
  n8 : ns.length ≤ 8
  nod : ns.Nodup
  ok : ∀ x ∈ ns, NameOk x
  len : rws.length = ns.length
  rows : ∀ row ∈ rws, RowIn b ns 12 row
def spBook (K : PySem.W.Frag) : Sp := fun vs H Q _ => ∃ (p pc ln : Addr) (b : Int) (ns : List Str) (most t : Nat) (G : Hp), vs = [.ref p, .int b, .ref ln, .int most] ∧ 2 ≤ b ∧ b ≤ 10 ∧ ns ≠ [] ∧ NamesOk ns ns.length ∧ ns.length ≤ 8 ∧ most ≤ 12 ∧ PenC H p pc t ∧ t + 400 < 2 ^ 29 ∧
  Same G H ∧ G p = none ∧ ln ≠ p ∧ H ln = some (.lst (ns.map V.str)) ∧
  ∀ (v : V) (rws : List (List (Int × Str))) (G' H' : Hp), Mw p G H G' H' → PenC H' p pc (t + 30 * ns.length) → Dq K G' v (bookD b ns rws) → BookOk b ns rws → Q v H'
structure TxB (mg : Str → Option Value) : Prop where
  len : mg "len" = none
  range : mg "range" = none
  tuple : mg "tuple" = none
  sorted : mg "sorted" = none
  dict : mg "dict" = none
section
variable {P : Program} {w : World} {K : PySem.W.Frag} {mg : Str → Option Value} {base : Heap}
theorem scBook : FnScope ["pen", "base", "names", "most", "rows", "name", "other", "d", "e", "way", "row", "some", "k", "pair"] ["pen", "base", "names", "most"] (defScope sBook) := ⟨rfl, rfl, rfl, by decide +kernel, rfl, by decide +kernel, by decide +kernel⟩
theorem dqApp {G : Hp} : ∀ {vs us : List V} {ds es : List PyData}, DqAll K G vs ds → DqAll K G us es → DqAll K G (vs ++ us) (ds ++ es)
  | _, _, _, _, .nil, h => h
  | _, _, _, _, .cons a r, h => .cons a (dqApp r h)
theorem dqStrs {G : Hp} : ∀ ns : List Str, DqAll K G (ns.map V.str) (ns.map PyData.str)
  | [] => .nil
  | x :: ns => .cons (.str x) (dqStrs ns)
theorem dqKeys {G : Hp} {kvs : List (Key × V)} {ns : List Str} {rws : List (List (Int × Str))} (h : kvs.map (·.1) = ns.map Sum.inr) (hl : rws.length = ns.length) : DqAll K G (kvs.map fun kv => kV kv.1) (((ns.zip rws).map fun z => (PyData.str z.1, rowD z.2)).map (·.1)) := by
  have e1 : (kvs.map fun kv => kV kv.1) = ns.map V.str := by
    have := congrArg (List.map kV) h
    rw [List.map_map, List.map_map] at this
    exact this
  have e2 : ((ns.zip rws).map fun z => (PyData.str z.1, rowD z.2)).map (·.1) = ns.map PyData.str := by
    rw [List.map_map]
    have := congrArg (List.map PyData.str) (List.map_fst_zip (l₁ := ns) (l₂ := rws) (by omega))
    rw [List.map_map] at this
    exact this
  rw [e1, e2]
  exact dqStrs ns
theorem zipVals {ns : List Str} {rws : List (List (Int × Str))} (hl : rws.length = ns.length) : ((ns.zip rws).map fun z => (PyData.str z.1, rowD z.2)).map (·.2) = rws.map rowD := by
  rw [List.map_map]
  have := congrArg (List.map rowD) (List.map_snd_zip (l₁ := ns) (l₂ := rws) (by omega))
  rw [List.map_map] at this
  exact this
theorem put_new {kvs : List (Key × V)} {ks : List Str} {x : Str} {v : V} (h : kvs.map (·.1) = ks.map Sum.inr) (n : x ∉ ks) : putK kvs (Sum.inr x) v = kvs ++ [(Sum.inr x, v)] := by
  unfold putK
  rw [if_neg]
  intro z
  obtain ⟨kv, h1, h2⟩ := List.any_eq_true.mp z
  have h3 : kv.1 = Sum.inr x := of_decide_eq_true h2
  have h4 : kv.1 ∈ ks.map Sum.inr := by rw [← h]; exact List.mem_map.mpr ⟨kv, h1, rfl⟩
  obtain ⟨y, hy, e⟩ := List.mem_map.mp h4
  rw [h3] at e
  cases e
  exact n hy
theorem take_new {ns : List Str} (h : ns.Nodup) {i : Nat} {x : Str} (hx : ns[i]? = some x) : x ∉ ns.take i := by
  intro z
  obtain ⟨j, hj⟩ := List.mem_iff_getElem?.mp z
  rw [List.getElem?_take] at hj
  by_cases c : j < i
  · rw [if_pos c] at hj
    have hi : i < ns.length := (List.getElem?_eq_some_iff.mp hx).1
    have := (List.getElem?_inj (by omega) h).mp (hj.trans hx.symm)
    omega
  · rw [if_neg c] at hj; cases hj
theorem ne_tl {H : Hp} {a c : Addr} {xs ys : List V} (h : H a = some (.tup xs)) (g : H c = some (.lst ys)) : a ≠ c := fun z => by rw [z, g] at h; cases h
theorem ok_book {f fT fRw : Addr} {fd fdT fdRw : FuncData} (F : Fun K "_law_book" "_law_book" sBook f fd) (T : TxB mg)
    (FT : Fun K "_law_take" "_law_take" sTake fT fdT) (GT : FnOk P w K mg base CX0 2 fT fdT ["pen", "many"] spTakeC) (bT : Binds K fdT ["pen", "many"] []) (gT : mg "_law_take" = some (.ref fT))
    (FRw : Fun K "_law_row" "_law_row" sRow fRw fdRw) (GRw : FnOk P w K mg base CX0 3 fRw fdRw ["pen", "base", "names", "most"] (spRow K)) (bRw : Binds K fdRw ["pen", "base", "names", "most"] []) (gRw : mg "_law_row" = some (.ref fRw)) :
    FnOk P w K mg base CX0 4 f fd ["pen", "base", "names", "most"] (spBook K) := by
  refine F.ok scBook (fun vs H Q E h => ?_) (fun cdv A outer s H vs Q E hr h => ?_)
  · obtain ⟨p, pc, ln, b, ns, most, t, G, rfl, _⟩ := h
    rfl
  · obtain ⟨p, pc, ln, b, ns, most, t, G, rfl, b0, b1, n0, nok, n8, hmo, PC, ht, e, np, lp, hln, k⟩ := h
    have hr3 := hr
    have hr2 : Room 2 _ := hr.mono (by decide)
    have hu := hr.units
    have hu1 := Nat.lt_trans (Nat.add_lt_add_left (show 1 < 64 by decide) _) hr.units
    have nl0 : 0 < ns.length := List.length_pos_iff.mpr n0
    refine ⟨_, (pss_cons (ps_set (i := 4) scBook.nd rfl (Or.inl rfl) pe_dnewK)
      (pss_cons (ps_for PassesOwn.never rfl (pi_list (pv 2)) (pg_name (i := 5) scBook.nd rfl (Or.inr rfl)) (pss_cons (ps_set (i := 6) scBook.nd rfl (Or.inl rfl) (pe_ix ix_list (pv 2) (pe_call GT hr2 (by rfl) gT FT.kp bT .nil pass0 (pa_cons (pv 0) (pa_cons (pe_callB call_len_seq (by rfl) T.len PySem.boot_len (pa_cons (pv 2) pa_nil)) pa_nil))) (fun _ _ => rfl)))
      (pss_cons (ps_set (i := 7) scBook.nd rfl (Or.inl rfl) (pe_call GT hr2 (by rfl) gT FT.kp bT .nil pass0 (pa_cons (pv 0) (pa_cons (pv 1) pa_nil))))
      (pss_cons (ps_set (i := 8) scBook.nd rfl (Or.inl rfl) (pe_call GT hr2 (by rfl) gT FT.kp bT .nil pass0 (pa_cons (pv 0) (pa_cons (pv 1) pa_nil))))
      (pss_cons (ps_set (i := 9) scBook.nd rfl (Or.inl rfl) (pe_call GT hr2 (by rfl) gT FT.kp bT .nil pass0 (pa_cons (pv 0) (pa_cons pe_int pa_nil))))
      (pss_cons (ps_set (i := 10) scBook.nd rfl (Or.inl rfl) (pe_call GRw hr3 (by rfl) gRw FRw.kp bRw .nil pass0 (pa_cons (pv 0) (pa_cons (pv 1) (pa_cons (pv 2) (pa_cons (pv 3) pa_nil))))))
      (C8.pss_cut (ps_if (pt_cmpR op_gt (pv 9) pe_int (nomark _)) (C8.pss_cut (ps_set (i := 11) scBook.nd rfl (Or.inl rfl) (pe_lstS (pa_cons (pe_lstS (pa_cons (pe_tupS (pa_cons (pv 7) (pa_cons (pv 5) pa_nil))) (pa_cons (pe_tupS (pa_cons (pv 8) (pa_cons (pv 5) pa_nil))) pa_nil))) (pa_cons (pe_lc (own := [("k", 12)]) (g := gName 12) (tt := tYes) rfl scBook.nd (pi_range1 (by rfl) T.range (pa_cons (pv 1) pa_nil)) (blkOk_by (N := ["pen", "base", "names", "most", "rows", "name", "other", "d", "e", "way", "row", "some", "k", "pair"]) (sc := defScope sBook) (by decide +kernel)) (fun _ _ _ _ _ => pg_name (i := 12) scBook.nd rfl (Or.inl rfl)) (fun _ _ _ _ _ => pts_nil) (fun _ _ _ _ _ => (pe_tupS (pa_cons (pv 12) (pa_cons (pv 5) pa_nil))))) (pa_cons (pe_lstS (pa_cons (pe_tupS (pa_cons pe_int (pa_cons (pv 6) pa_nil))) (pa_cons (pe_tupS (pa_cons (pe_op op_sub (pv 1) pe_int) (pa_cons (pv 5) pa_nil))) pa_nil))) pa_nil)))))
      (C8.pss_cut (ps_set (i := 11) scBook.nd rfl (Or.inl rfl) (pe_op op_cat (pv 11) (pe_lstS (pa_cons (pe_lstS (pa_cons (pe_tupS (pa_cons (pv 7) (pa_cons (pv 5) pa_nil))) pa_nil)) (pa_cons (pe_lstS (pa_cons (pe_tupS (pa_cons (pv 7) (pa_cons (pv 5) pa_nil))) (pa_cons (pe_tupS (pa_cons (pv 8) (pa_cons (pv 6) pa_nil))) pa_nil))) (pa_cons (pe_lstS (pa_cons (pe_tupS (pa_cons (pv 7) (pa_cons (pv 6) pa_nil))) (pa_cons (pe_tupS (pa_cons (pv 7) (pa_cons (pv 5) pa_nil))) pa_nil))) pa_nil))))))
      (pss_one (ps_set (i := 10) scBook.nd rfl (Or.inl rfl) (pe_callTy call_tuple_of (by rfl) T.tuple boot_tuple (pa_cons (pe_callB (call_sortedDT rfl) (by rfl) T.sorted boot_sorted (pa_cons (pe_callTy (call_dictTP rfl hu) (by rfl) T.dict boot_dict (pa_cons (pe_lc (own := [("pair", 13)]) (g := gName 13) (tt := tYes) rfl scBook.nd (pi_list (pe_ix ix_list (pv 11) (pe_op op_sub (pv 9) pe_int) (fun _ _ => rfl))) (blkOk_by (N := ["pen", "base", "names", "most", "rows", "name", "other", "d", "e", "way", "row", "some", "k", "pair"]) (sc := defScope sBook) (by decide +kernel)) (fun _ _ _ _ _ => pg_name (i := 13) scBook.nd rfl (Or.inl rfl)) (fun _ _ _ _ _ => pts_nil) (fun _ _ _ _ _ => (pe_tupS (pa_cons (pv 13) (pa_cons pe_bl pa_nil))))) pa_nil)) pa_nil)) pa_nil)))))) pss_nil)
      (pss_one (ps_dput hu1 (pv 4) (pv 5) (pv 10) rfl)))))))))
      (pss_one (ps_ret (pe_tup (pa_cons (pv 1) (pa_cons (pv 4) pa_nil))))))), ?_⟩
    intro r nr
    have rp : r ≠ p := pen_not PC.any nr
    have rc : r ≠ pc := fun z => PC.at_c (by rw [← z]; exact nr)
    have rl : r ≠ ln := fun z => by rw [← z, nr] at hln; cases hln
    have gr : G r = none := e.free nr
    have M0 : Mw p G H G (upd H r (.dK [])) := (Mw.take e np PC PC (fun _ _ _ h => h)).own nr gr rp
    refine ⟨_, rfl, ln, rfl, ⟨_, SqL.of ((Same.upd nr) _ _ hln)⟩, for_it (walk_list (K := K) (a := ln) (xs := ns.map V.str)) (fun i σ H2 => (∃ y5 y6 y7 y8 y9 y10 y11 : Option V, σ = [some (.ref p), some (.int b), some (.ref ln), some (.int most), some (.ref r), y5, y6, y7, y8, y9, y10, y11, none, none]) ∧ PenC H2 p pc (t + 30 * i) ∧ i ≤ ns.length ∧
      ∃ (G2 : Hp) (kvs : List (Key × V)) (rws : List (List (Int × Str))), Mw p G H G2 H2 ∧ H2 r = some (.dK kvs) ∧ G2 r = none ∧ kvs.map (·.1) = (ns.take i).map Sum.inr ∧ DqAll K G2 (kvs.map (·.2)) (rws.map rowD) ∧ (∀ row ∈ rws, RowIn b ns 12 row) ∧ rws.length = i) ?_ ?_ ?_ ?_⟩
    · exact ⟨⟨_, _, _, _, _, _, _, rfl⟩, PC.upd rp rc (by omega) _, Nat.zero_le _, G, [], [], M0, upd_same, gr, rfl, .nil, (fun _ h => nomatch h), rfl⟩
    · rintro i σ H2 _ ⟨_, _, _, G2, kvs, rws, m, _⟩
      exact SqL.of (m.bt _ _ lp hln)
    · rintro i x σ H2 H3 hi' ⟨⟨y5, y6, y7, y8, y9, y10, y11, rfl⟩, P2, hi, G2, kvs, rws, m, hrk, g2r, hk, hdq, hin, hlen⟩ ⟨rfl, hx⟩
      rw [List.length_map] at hi'
      obtain ⟨nm, hnm, rfl⟩ : ∃ nm, ns[i]? = some nm ∧ x = .str nm := by
        rw [List.getElem?_map, List.getElem?_eq_getElem hi'] at hx
        exact ⟨ns[i], List.getElem?_eq_getElem hi', (Option.some.inj hx).symm⟩
      have nmin : nm ∈ ns := List.mem_of_getElem? hnm
      have ln2 := m.bt _ _ lp hln
      refine ⟨_, rfl, _, rfl, _, rfl, ln, _, rfl, .inl (SqL.of ln2), p, pc, _, _, rfl, by rw [List.length_map]; omega, by rw [List.length_map]; exact small_nat (by omega), P2, by omega, fun ix H3 i0 i1 b3 P3 => ?_⟩
      rw [List.length_map] at i1
      obtain ⟨ot, otin, hot⟩ := str_at i0 i1
      have ln3 := b3 _ _ lp ln2
      refine ⟨ln, _, _, _, rfl, rfl, SqL.of ln3, hot, ?_⟩
      refine ⟨_, rfl, _, rfl, p, pc, b, _, rfl, by omega, small_int (by omega) (by omega), P3, by omega, fun d H4 d0 d1 b4 P4 => ?_⟩
      refine ⟨_, rfl, _, rfl, p, pc, b, _, rfl, by omega, small_int (by omega) (by omega), P4, by omega, fun e' H5 e0 e1 b5 P5 => ?_⟩
      refine ⟨_, rfl, p, pc, 12, _, rfl, by decide, by decide, P5, by omega, fun wy H6 w0 w1 b6 P6 => ?_⟩
      have bt6 := ((b3.trans b4).trans b5).trans b6
      have m6 := m.trans (Mw.take m.gh (m.gp np) P2 P6 bt6)
      have r6 := bt6 _ _ rp hrk
      refine ⟨_, rfl, _, rfl, _, rfl, _, rfl, p, pc, ln, b, ns, most, _, G2, rfl, b0, b1, n0, n8, hmo, P6, by omega, m6.gh, m.gp np, lp, bt6 _ _ lp ln2, fun v row G7 H7 mr P7 dqv rin => ?_⟩
      have m7 := m6.trans mr
      have r7 := mr.bt _ _ rp r6
      have g7r : G7 r = none := by rw [mr.old r ⟨some_ne r6, fun ys z => by rw [r6] at z; cases z⟩]; exact g2r
      have dq7 := hdq.mono mr.gg
      have P7 : PenC H7 p pc (t + 30 * (i + 1)) := P7.same (Same.refl _) (by omega)
      refine ⟨fun σ H8 => ∃ (v' : V) (row' : List (Int × Str)) (G8 : Hp) (y11 : Option V), σ = [some (.ref p), some (.int b), some (.ref ln), some (.int most), some (.ref r), some (.str nm), some (.str ot), some (.int d), some (.int e'), some (.int wy), some v', y11, none, none] ∧
        Mw p G H G8 H8 ∧ Same G7 G8 ∧ PenC H8 p pc (t + 30 * (i + 1)) ∧ H8 r = some (.dK kvs) ∧ G8 r = none ∧ Dq K G8 v' (rowD row') ∧ RowIn b ns 12 row', ?_, ?_⟩
      · have dn : InB b ns (d, nm) := ⟨d0, d1, nmin⟩
        have en : InB b ns (e', nm) := ⟨e0, e1, nmin⟩
        have dob : InB b ns (d, ot) := ⟨d0, d1, otin⟩
        have eob : InB b ns (e', ot) := ⟨e0, e1, otin⟩
        refine ⟨_, rfl, _, _, rfl, rfl, _, rfl, ite2 (fun wy6 => ?_) (fun _ => ⟨v, row, G7, _, rfl, m7, Same.refl _, P7, r7, g7r, dqv, rin.mem, by have := rin.len; omega⟩)⟩
        have wy6 := of_decide_eq_true wy6
        refine ⟨fun σ H8 => ∃ (sm : Addr) (as : List Addr), σ = [some (.ref p), some (.int b), some (.ref ln), some (.int most), some (.ref r), some (.str nm), some (.str ot), some (.int d), some (.int e'), some (.int wy), some v, some (.ref sm), none, none] ∧ Same H7 H8 ∧ H8 sm = some (.lst (as.map V.ref)) ∧ (∀ a ∈ as, PL b ns H8 a) ∧ as.length = 3, ?_, ?_⟩
        · refine ⟨_, rfl, _, rfl, (by show 2 ≤ sizeLine; decide), fun q1 Ha s1 h1 => ?_⟩
          refine ⟨_, rfl, _, rfl, (by show 2 ≤ sizeLine; decide), fun q2 Hb s2 h2 => ⟨(by show 2 ≤ sizeLine; decide), fun l1 Hc s3 _ g1 => ?_⟩⟩
          have pl1 : PL b ns Hc l1 := PL.two (x := (d, nm)) (y := (e', nm)) g1 (s3 _ _ (s2 _ _ h1)) (s3 _ _ h2) dn en
          have sc : Same H7 Hc := (s1.trans s2).trans s3
          refine ⟨_, rfl, _, rfl, by omega, by omega, fun D nD => ?_⟩
          refine lc_it (walk_range (lo := 0) (n := b.toNat)) (fun j Hi => Same Hc Hi ∧ j ≤ b.toNat ∧ ∃ zs : List (Addr × Int × Str), Hi D = some (.lst (zs.map fun z => V.ref z.1)) ∧ (∀ z ∈ zs, Hi z.1 = some (.tup (pv2 z.2)) ∧ InB b ns z.2) ∧ zs.length = j)
            ⟨Same.upd nD, Nat.zero_le _, [], upd_same, (fun _ h => nomatch h), rfl⟩ (fun _ _ _ _ => trivial) ?_ ?_
          · rintro j x Hi Hj hj ⟨sj, _, zs, hD, hz, hzl⟩ ⟨rfl, hx⟩
            replace hx : x = V.int j := hx.trans (by show V.int (0 + (j : Int)) = _; rw [Int.zero_add])
            subst hx
            refine ⟨rfl, ?_⟩
            refine ⟨_, rfl, _, rfl, (by show 2 ≤ sizeLine; decide), fun q Hk sk hq => ?_⟩
            have hDk := sk _ _ hD
            refine ⟨_, hDk, by rw [List.length_map, sizeLine_eq]; omega, fun c o hc => ?_, by omega, zs ++ [(q, ((j : Int), nm))], by rw [upd_same, List.map_append]; rfl, fun z hzm => ?_, by rw [List.length_append, hzl]; rfl⟩
            · rw [upd_ne (ne_of_none hc nD)]
              exact sk _ _ (sj c o hc)
            · rcases List.mem_append.mp hzm with hzm | hzm
              · have hk2 := sk _ _ (hz z hzm).1
                exact ⟨by rw [upd_ne (ne_tl hk2 hDk)]; exact hk2, (hz z hzm).2⟩
              · rw [List.mem_singleton.mp hzm]
                refine ⟨by rw [upd_ne (ne_tl hq hDk)]; exact hq, by show (0 : Int) ≤ (j : Int); omega, by show (j : Int) < b; omega, nmin⟩
          · rintro Hd ⟨sd, _, zs, hD, hz, hzl⟩
            have pl2 : PL b ns Hd D := ⟨zs, hD, hz, by omega⟩
            refine ⟨_, rfl, (by show 2 ≤ sizeLine; decide), fun q3 He s4 h3 => ?_⟩
            refine ⟨_, rfl, _, _, rfl, rfl, _, rfl, (by show 2 ≤ sizeLine; decide), fun q4 Hf s5 h4 => ⟨(by show 2 ≤ sizeLine; decide), fun l3 Hg s6 _ g3 => ?_⟩⟩
            refine ⟨(by show 3 ≤ sizeLine; decide), fun sm Hh s7 _ hsm => ?_⟩
            have pl3 : PL b ns Hg l3 := PL.two (x := (0, ot)) (y := (b - 1, nm)) g3 (s6 _ _ (s5 _ _ h3)) (s6 _ _ h4) ⟨Int.le_refl 0, by show (0 : Int) < b; omega, otin⟩ ⟨by show (0 : Int) ≤ b - 1; omega, by show b - 1 < b; omega, nmin⟩
            have sdh : Same Hd Hh := ((s4.trans s5).trans s6).trans s7
            refine ⟨sm, [l1, D, l3], rfl, (sc.trans sd).trans sdh, hsm, fun a ha => ?_, rfl⟩
            rcases List.mem_cons.mp ha with rfl | ha
            · exact pl1.same (sd.trans sdh)
            rcases List.mem_cons.mp ha with rfl | ha
            · exact pl2.same sdh
            · rw [List.mem_singleton.mp ha]; exact pl3.same s7
        rintro σ H8 ⟨sm, as, rfl, s8, hsm, hpl, hal⟩
        refine ⟨fun σ H9 => ∃ (sm : Addr) (as : List Addr), σ = [some (.ref p), some (.int b), some (.ref ln), some (.int most), some (.ref r), some (.str nm), some (.str ot), some (.int d), some (.int e'), some (.int wy), some v, some (.ref sm), none, none] ∧ Same H7 H9 ∧ H9 sm = some (.lst (as.map V.ref)) ∧ (∀ a ∈ as, PL b ns H9 a) ∧ as.length = 6, ?_, ?_⟩
        · refine ⟨_, rfl, ?_⟩
          refine ⟨_, rfl, _, rfl, (by show 2 ≤ sizeLine; decide), fun q1 Ha s1 h1 => ⟨(by show 1 ≤ sizeLine; decide), fun l1 Hb s2 _ g1 => ?_⟩⟩
          refine ⟨_, rfl, _, rfl, (by show 2 ≤ sizeLine; decide), fun q2 Hc s3 h2 => ?_⟩
          refine ⟨_, rfl, _, rfl, (by show 2 ≤ sizeLine; decide), fun q3 Hd s4 h3 => ⟨(by show 2 ≤ sizeLine; decide), fun l2 He s5 _ g2 => ?_⟩⟩
          refine ⟨_, rfl, _, rfl, (by show 2 ≤ sizeLine; decide), fun q4 Hf s6 h4 => ?_⟩
          refine ⟨_, rfl, _, rfl, (by show 2 ≤ sizeLine; decide), fun q5 Hg s7 h5 => ⟨(by show 2 ≤ sizeLine; decide), fun l3 Hh s9 _ g3 => ?_⟩⟩
          refine ⟨(by show 3 ≤ sizeLine; decide), fun sn Hi s10 _ hsn => ?_⟩
          have p1 : PL b ns Hb l1 := PL.one (x := (d, nm)) g1 (s2 _ _ h1) dn
          have p2 : PL b ns He l2 := PL.two (x := (d, nm)) (y := (e', ot)) g2 (s5 _ _ (s4 _ _ h2)) (s5 _ _ h3) dn eob
          have p3 : PL b ns Hh l3 := PL.two (x := (d, ot)) (y := (d, nm)) g3 (s9 _ _ (s7 _ _ h4)) (s9 _ _ h5) dob dn
          have sbe : Same Hb He := (s3.trans s4).trans s5
          have seh : Same He Hh := (s6.trans s7).trans s9
          have s8i : Same H8 Hi := (((s1.trans s2).trans sbe).trans seh).trans s10
          refine ⟨sm, sn, _, _, rfl, rfl, s8i _ _ hsm, hsn, by rw [List.length_map, hal]; show 3 + 3 ≤ sizeLine; decide, fun sx nx => ?_⟩
          have sx' : Same Hi (upd Hi sx (.lst (as.map V.ref ++ [V.ref l1, V.ref l2, V.ref l3]))) := Same.upd nx
          refine ⟨sx, as ++ [l1, l2, l3], rfl, (s8.trans s8i).trans sx', by rw [upd_same, List.map_append]; rfl, fun a ha => ?_, by rw [List.length_append, hal]; rfl⟩
          refine PL.same ?_ sx'
          rcases List.mem_append.mp ha with ha | ha
          · exact (hpl a ha).same s8i
          rcases List.mem_cons.mp ha with rfl | ha
          · exact p1.same ((sbe.trans seh).trans s10)
          rcases List.mem_cons.mp ha with rfl | ha
          · exact p2.same (seh.trans s10)
          · rw [List.mem_singleton.mp ha]; exact p3.same s10
        rintro σ H9 ⟨sm, as, rfl, s9, hsm, hpl, hal⟩
        obtain ⟨la, lain, hla⟩ := adr_at (as := as) (i := wy - 5 - 1) (by omega) (by rw [hal]; omega)
        obtain ⟨zs, hz1, hz2, hz3⟩ := (hpl la lain).ex
        have ewy : wy - 6 = wy - 5 - 1 := by omega
        rw [← ewy] at hla
        refine ⟨_, rfl, _, rfl, _, _, rfl, rfl, sm, _, _, _, rfl, rfl, SqL.of hsm, hla, ?_⟩
        refine ⟨la, rfl, ⟨_, SqL.of hz1⟩, fun D nD => ?_⟩
        refine lc_it (walk_list (K := K) (a := la) (xs := zs.map fun z => V.ref z.1)) (fun j Hi => Same H9 Hi ∧ ∃ ws : List (Addr × Addr × (Int × Str)), Hi D = some (.lst (ws.map fun z => V.ref z.1)) ∧ (∀ z ∈ ws, (Hi z.1 = some (.tup [.ref z.2.1, .bl true]) ∧ Hi z.2.1 = some (.tup (pv2 z.2.2))) ∧ InB b ns z.2.2) ∧ ws.length = j)
          ⟨Same.upd nD, [], upd_same, (fun _ h => nomatch h), rfl⟩ (fun j Hi _ q => SqL.of (q.1 _ _ hz1)) ?_ ?_
        · rintro j x Hi Hj hj ⟨sj, ws, hD, hw, hwl⟩ ⟨rfl, hx⟩
          rw [List.length_map] at hj
          rw [List.getElem?_map] at hx
          obtain ⟨z, hzj, rfl⟩ := Option.map_eq_some_iff.mp hx
          have zin := List.mem_of_getElem? hzj
          refine ⟨rfl, ?_⟩
          refine ⟨_, rfl, (by show 2 ≤ sizeLine; decide), fun q Hk sk hq => ?_⟩
          have hDk := sk _ _ hD
          have zk := sk _ _ (sj _ _ (hz2 z zin).1)
          refine ⟨_, hDk, by rw [List.length_map, sizeLine_eq]; omega, fun c o hc => ?_, ws ++ [(q, z.1, z.2)], by rw [upd_same, List.map_append]; rfl, fun y hy => ?_, by rw [List.length_append, hwl]; rfl⟩
          · rw [upd_ne (ne_of_none hc nD)]
            exact sk _ _ (sj c o hc)
          · rcases List.mem_append.mp hy with hy | hy
            · have h1 := sk _ _ (hw y hy).1.1
              have h2 := sk _ _ (hw y hy).1.2
              exact ⟨⟨by rw [upd_ne (ne_tl h1 hDk)]; exact h1, by rw [upd_ne (ne_tl h2 hDk)]; exact h2⟩, (hw y hy).2⟩
            · rw [List.mem_singleton.mp hy]
              exact ⟨⟨by rw [upd_ne (ne_tl hq hDk)]; exact hq, by rw [upd_ne (ne_tl zk hDk)]; exact zk⟩, (hz2 z zin).2⟩
        · rintro Hi ⟨si, ws, hD, hw, hwl⟩
          rw [List.length_map] at hwl
          refine ⟨D, ws, rfl, SqL.of hD, fun z hz => (hw z hz).1, by omega, fun dd ndd => ?_⟩
          have kin := (KeysIn.nil (S := InB b ns)).merge (.bl true) (L := ws.map fun z => z.2.2) fun x hx => by
            obtain ⟨z, hz, rfl⟩ := List.mem_map.mp hx
            exact (hw z hz).2
          rw [List.map_map, List.length_map] at kin
          obtain ⟨ps, k1, k2, k3⟩ := kin.ex
          refine ⟨dd, _, ps, rfl, upd_same, k1, fun us l hp hu' nl => ?_⟩
          refine ⟨l, _, rfl, .inl ⟨SqL.of upd_same, fun q nq => ?_⟩⟩
          have sdd : Same Hi (upd Hi dd (.dT (mergeT [] (ws.map fun z => (pk z.2.2, V.bl true))))) := Same.upd ndd
          have sll : Same (upd Hi dd (.dT (mergeT [] (ws.map fun z => (pk z.2.2, V.bl true))))) (upd (upd Hi dd (.dT (mergeT [] (ws.map fun z => (pk z.2.2, V.bl true))))) l (.lst (us.map fun z => V.ref z.1))) := Same.upd nl
          have s7l := ((s9.trans si).trans sdd).trans sll
          have m9 := (m7.more s7l).all
          have g79 := alls_gg (m7.more s7l).gh
          have hul : ∀ z ∈ us, (upd (upd Hi dd (.dT (mergeT [] (ws.map fun z => (pk z.2.2, V.bl true))))) l (.lst (us.map fun z => V.ref z.1))) z.1 = some (.tup (pv2 z.2)) := fun z hz => sll _ _ (hu' z hz)
          have r9 := s7l _ _ r7
          have P9 := P7.same s7l (Nat.le_refl _)
          generalize upd (upd Hi dd (.dT (mergeT [] (ws.map fun z => (pk z.2.2, V.bl true))))) l (.lst (us.map fun z => V.ref z.1)) = H10 at m9 g79 hul r9 P9 nq s7l
          have g9r : alls G7 H10 r = none := by rw [alls_no (fun ys z => by rw [r9] at z; cases z)]; exact g7r
          have nwq := Nw.mk1 m9.gh nq (.tup (us.map fun z => V.ref z.1))
          have rq : r ≠ q := ne_of_none r9 nq
          refine ⟨.ref q, us.map (·.2), _, _, rfl, m9.trans (Mw.nw nwq P9), g79.trans nwq.gg, P9.same (Same.upd nq) (Nat.le_refl _), by rw [upd_ne rq]; exact r9, by rw [upd_ne rq]; exact g9r, ?_, fun x hx => k2 x (hp.mem_iff.mp hx), by rw [hp.length_eq]; omega⟩
          refine .tup upd_same (dq_zs fun z hzm => ?_)
          rw [upd_ne (fun w' => by have h1 := hul z hzm; rw [w', nq] at h1; cases h1)]
          exact alls_tup (hul z hzm)
      · rintro σ H8 ⟨v', row', G8, y11', rfl, m8, g78, P8, r8, g8r, dqv8, rin8⟩
        refine ⟨_, rfl, _, rfl, _, rfl, r, _, rfl, DPut.k (k := Sum.inr nm) r8 ?_, ?_⟩
        · have h1 := congrArg List.length hk
          rw [List.length_map, List.length_map, List.length_take] at h1
          rw [sizeLine_eq]; omega
        rw [put_new hk (take_new nok.nod hnm)]
        refine ⟨⟨_, _, _, _, _, _, _, rfl⟩, P8.upd rp rc (Nat.le_refl _) _, hi', G8, _, rws ++ [row'], m8.own nr g8r rp, upd_same, g8r, ?_, ?_, fun x hx => ?_, by rw [List.length_append, hlen]; rfl⟩
        · rw [List.map_append, hk, List.take_add_one, hnm, List.map_append]; rfl
        · rw [List.map_append, List.map_append]
          exact dqApp (dq7.mono g78) (.cons dqv8 .nil)
        · rcases List.mem_append.mp hx with hx | hx
          · exact hin x hx
          · rw [List.mem_singleton.mp hx]; exact rin8
    · rintro σ H2 ⟨⟨y5, y6, y7, y8, y9, y10, y11, rfl⟩, P2, _, G2, kvs, rws, m, hrk, g2r, hk, hdq, hin, hlen⟩
      rw [List.length_map] at hk hlen P2
      refine ⟨_, rfl, _, rfl, (by show 2 ≤ sizeLine; decide), fun q nq => ?_⟩
      have m1 := m.stand nr hrk
      have m2 := m1.trans (Mw.nw (Nw.mk1 m1.gh nq (.tup [.int b, .ref r])) P2)
      refine k (.ref q) rws _ _ m2 (P2.same (Same.upd nq) (Nat.le_refl _)) ?_ ⟨b0, b1, n0, n8, nok.nod, nok.ok, hlen, hin⟩
      have rq : r ≠ q := ne_of_none hrk nq
      refine .tup upd_same (.cons (.int _) (.cons ?_ .nil))
      rw [List.take_length] at hk
      refine .dct (kvs := kvs) (by rw [upd_ne rq]; exact upd_same) (dqKeys hk hlen) ?_
      rw [zipVals hlen]
      exact (hdq.mono (Same.upd g2r)).mono (Nw.mk1 m1.gh nq (.tup [.int b, .ref r])).gg
end
end My

namespace My
open PySem PySem.Spec PyProof.Rows L2
/-! ### one rising order -/
def le' (a b : Str) : Prop := tl a ≤ tl b
theorem rising_pw : ∀ (p : Str) (l : List Str), risingS p l = true → (p :: l).Pairwise le'
  | p, [], _ => List.pairwise_singleton _ _
  | p, x :: r, h => by
    have h1 : (!ltCps x.cps.toList p.cps.toList && risingS x r) = true := h
    rw [Bool.and_eq_true] at h1
    have h2 : ¬ tl x < tl p := by
      have := h1.1
      rw [ltCps_eq] at this
      simpa using this
    have ih := rising_pw x r h1.2
    refine List.pairwise_cons.mpr ⟨fun y hy => ?_, ih⟩
    have px : tl p ≤ tl x := List.not_lt.mp h2
    rcases List.mem_cons.mp hy with rfl | hy
    · exact px
    · exact List.le_trans px ((List.pairwise_cons.mp ih).1 y hy)
theorem sorted_pw (l : List Str) (h : sortedS l = true) : l.Pairwise le' := by
  cases l with
  | nil => exact List.Pairwise.nil
  | cons x r => exact rising_pw x r h
theorem sorted_one {xs ys : List Str} (h : xs.Perm ys) (hx : sortedS xs = true) (hy : sortedS ys = true) : xs = ys :=
  List.Perm.eq_of_pairwise (le := le') (fun a b _ _ h1 h2 => by
    have := List.le_antisymm h1 h2
    rw [← ofL_tl a, ← ofL_tl b, this]) (sorted_pw xs hx) (sorted_pw ys hy) h
/-! ### ways -/
def rowAt (ns : List Str) (rws : List (List (Int × Str))) (x : Str) : List (Int × Str) := rws.getD (ns.idxOf x) []
def Ed (ns : List Str) (rws : List (List (Int × Str))) (x y : Str) : Prop := ∃ q ∈ rowAt ns rws x, q.2 = y
theorem rowAt_mem {ns : List Str} {rws : List (List (Int × Str))} {x : Str} {q : Int × Str} (h : q ∈ rowAt ns rws x) : rowAt ns rws x ∈ rws := by
  unfold rowAt at h ⊢
  rw [List.getD_eq_getElem?_getD] at h ⊢
  cases e : rws[ns.idxOf x]? with
  | none => rw [e] at h; exact nomatch h
  | some r => exact List.mem_of_getElem? e
theorem BookOk.inb {b : Int} {ns : List Str} {rws : List (List (Int × Str))} (B : BookOk b ns rws) {x : Str} {q : Int × Str} (h : q ∈ rowAt ns rws x) : InB b ns q := (B.rows _ (rowAt_mem h)).mem q h
theorem rowAt_len {b : Int} {ns : List Str} {rws : List (List (Int × Str))} (B : BookOk b ns rws) (x : Str) : (rowAt ns rws x).length ≤ 12 := by
  cases e : rowAt ns rws x with
  | nil => simp
  | cons q r => rw [← e]; exact (B.rows _ (rowAt_mem (q := q) (by rw [e]; exact List.mem_cons_self))).len
theorem get_row {K : PySem.W.Frag} {G : Hp} : ∀ {kvs : List (Key × V)} {ns : List Str} {rws : List (List (Int × Str))} {x : Str}, kvs.map (·.1) = ns.map Sum.inr → DqAll K G (kvs.map (·.2)) (rws.map rowD) → x ∈ ns →
    ∃ v, valV kvs (Sum.inr x) = some v ∧ Dq K G v (rowD (rowAt ns rws x))
  | [], [], _, _, _, _, h => nomatch h
  | [], _ :: _, _, _, h, _, _ => nomatch h
  | _ :: _, [], _, _, h, _, _ => nomatch h
  | (k, v) :: kvs, n :: ns, rws, x, hk, hd, hx => by
    injection hk with h1 h2
    have h1' : k = Sum.inr n := h1
    subst h1'
    cases rws with
    | nil => cases hd
    | cons row rws =>
      cases hd with
      | cons d1 d2 =>
        by_cases e : n = x
        · subst e
          refine ⟨v, valV_pos (p := (Sum.inr n, v)) rfl, ?_⟩
          have : rowAt (n :: ns) (row :: rws) n = row := by unfold rowAt; simp
          rw [this]; exact d1
        · have hx' : x ∈ ns := (List.mem_cons.mp hx).resolve_left (Ne.symm e)
          obtain ⟨u, g1, g2⟩ := get_row h2 d2 hx'
          refine ⟨u, by rw [valV_neg (p := (Sum.inr n, v)) (fun z => e (Sum.inr.inj z))]; exact g1, ?_⟩
          have : rowAt (n :: ns) (row :: rws) x = rowAt ns rws x := by
            unfold rowAt
            have hb : (n == x) = false := by simpa using e
            rw [List.idxOf_cons, hb]
            simp
          rw [this]; exact g2
abbrev Bh (ns : List Str) (rws : List (List (Int × Str))) : Str → Str → Prop := Relation.TransGen (Ed ns rws)
theorem bh_in {b : Int} {ns : List Str} {rws : List (List (Int × Str))} (B : BookOk b ns rws) {x y : Str} (h : Bh ns rws x y) : y ∈ ns := by
  cases h with
  | single h => obtain ⟨q, hq, rfl⟩ := h; exact (B.inb hq).2.2
  | tail _ h => obtain ⟨q, hq, rfl⟩ := h; exact (B.inb hq).2.2
theorem bh_head {E : Str → Str → Prop} {x y : Str} (h : Relation.TransGen E x y) : ∃ z, E x z ∧ (z = y ∨ Relation.TransGen E z y) := by
  induction h with
  | single h => exact ⟨_, h, .inl rfl⟩
  | tail _ h ih =>
    obtain ⟨z, h1, h2⟩ := ih
    refine ⟨z, h1, .inr ?_⟩
    rcases h2 with rfl | h2
    · exact .single h
    · exact h2.tail h
/-- from which one can go on without end -/
def Lv (ns : List Str) (rws : List (List (Int × Str))) (x : Str) : Prop := ∃ o, (o = x ∨ Bh ns rws x o) ∧ Bh ns rws o o
theorem lv_on {ns : List Str} {rws : List (List (Int × Str))} {x : Str} (h : Lv ns rws x) : ∃ y, Ed ns rws x y ∧ Lv ns rws y := by
  obtain ⟨o, h1, h2⟩ := h
  have key : Bh ns rws x o := by
    rcases h1 with rfl | h1
    · exact h2
    · exact h1
  obtain ⟨y, g1, g2⟩ := bh_head key
  refine ⟨y, g1, o, ?_, h2⟩
  rcases g2 with rfl | g2
  · exact .inl rfl
  · exact .inr g2
theorem pigeonQ : ∀ (n : Nat) (l : List Nat), l.Nodup → (∀ x ∈ l, x < n) → l.length ≤ n
  | 0, l, _, h => by
    cases l with
    | nil => simp
    | cons x r => exact absurd (h x List.mem_cons_self) (Nat.not_lt_zero _)
  | n + 1, l, hn, h => by
    have ih := pigeonQ n (l.erase n) (hn.erase n) fun x hx => by
      obtain ⟨h1, h2⟩ := (List.Nodup.mem_erase_iff hn).mp hx
      have := h x h2
      omega
    by_cases hm : n ∈ l
    · rw [List.length_erase_of_mem hm] at ih
      omega
    · rw [List.erase_of_not_mem hm] at ih
      omega
theorem lv_of_closed {ns : List Str} {rws : List (List (Int × Str))} {L : List Str} (hL : ∀ x ∈ L, ∃ y ∈ L, Ed ns rws x y) {x : Str} (hx : x ∈ L) : Lv ns rws x := by
  have ch : ∃ s : Nat → {y // y ∈ L}, (s 0).1 = x ∧ ∀ k, Ed ns rws (s k).1 (s (k + 1)).1 := by
    have nx : ∀ y : {y // y ∈ L}, ∃ z : {y // y ∈ L}, Ed ns rws y.1 z.1 := fun y => by
      obtain ⟨z, h1, h2⟩ := hL y.1 y.2
      exact ⟨⟨z, h1⟩, h2⟩
    refine ⟨fun k => Nat.rec ⟨x, hx⟩ (fun _ y => Classical.choose (nx y)) k, rfl, fun k => Classical.choose_spec (nx _)⟩
  obtain ⟨s, s0, sk⟩ := ch
  have up : ∀ i d, Bh ns rws (s i).1 (s (i + d + 1)).1 := fun i d => by
    induction d with
    | zero => exact .single (sk i)
    | succ d ih => exact ih.tail (sk _)
  have rep : ∃ i j, i < j ∧ (s i).1 = (s j).1 := by
    refine Classical.byContradiction fun hno => ?_
    have nod : ((List.range (L.length + 1)).map fun i => L.idxOf (s i).1).Nodup := nodup_of fun i j h1 _ e => hno ⟨i, j, h1, by
      have e1 := List.getElem_idxOf (List.idxOf_lt_length_iff.mpr (s i).2)
      have e2 := List.getElem_idxOf (List.idxOf_lt_length_iff.mpr (s j).2)
      rw [← e1, ← e2]
      simp only [e]⟩
    have := pigeonQ L.length _ nod fun y hy => by
      obtain ⟨i, _, rfl⟩ := List.mem_map.mp hy
      exact List.idxOf_lt_length_iff.mpr (s i).2
    rw [List.length_map, List.length_range] at this
    omega
  obtain ⟨i, j, hij, e⟩ := rep
  refine ⟨(s i).1, ?_, ?_⟩
  · cases i with
    | zero => exact .inl s0
    | succ i =>
      have := up 0 i
      rw [s0, Nat.zero_add] at this
      exact .inr this
  · have := up i (j - i - 1)
    rw [show i + (j - i - 1) + 1 = j by omega, ← e] at this
    exact this
/-- one turn of live -/
def stp (ns : List Str) (rws : List (List (Int × Str))) (L : List Str) : List Str := L.filter fun x => (rowAt ns rws x).any fun q => decide (q.2 ∈ L)
structure LiveAt (ns : List Str) (rws : List (List (Int × Str))) (S L : List Str) : Prop where
  ex : ∃ P : Str → Bool, L = S.filter P ∧ ∀ x ∈ S, Lv ns rws x → P x = true
theorem LiveAt.start {ns : List Str} {rws : List (List (Int × Str))} {S : List Str} : LiveAt ns rws S S := ⟨fun _ => true, (List.filter_eq_self.mpr fun _ _ => rfl).symm, fun _ _ _ => rfl⟩
theorem LiveAt.step {b : Int} {ns : List Str} {rws : List (List (Int × Str))} (B : BookOk b ns rws) {S L : List Str} (hS : ∀ x, x ∈ S ↔ x ∈ ns) (h : LiveAt ns rws S L) : LiveAt ns rws S (stp ns rws L) := by
  obtain ⟨P, rfl, hP⟩ := h.ex
  refine ⟨fun x => P x && (rowAt ns rws x).any fun q => decide (q.2 ∈ S.filter P), ?_, fun x hx hl => ?_⟩
  · unfold stp
    rw [List.filter_filter]
    refine List.filter_congr fun x _ => ?_
    rw [Bool.and_comm]
  · rw [Bool.and_eq_true]
    refine ⟨hP x hx hl, ?_⟩
    obtain ⟨y, ⟨q, hq, rfl⟩, hy⟩ := lv_on hl
    have hyn : q.2 ∈ S := (hS _).mpr (B.inb hq).2.2
    exact List.any_eq_true.mpr ⟨q, hq, decide_eq_true (List.mem_filter.mpr ⟨hyn, hP _ hyn hy⟩)⟩
theorem LiveAt.fix {ns : List Str} {rws : List (List (Int × Str))} {S L : List Str} (h : LiveAt ns rws S L) (e : stp ns rws L = L) : ∀ x, x ∈ L ↔ x ∈ S ∧ Lv ns rws x := by
  obtain ⟨P, hL, hP⟩ := h.ex
  have cl : ∀ x ∈ L, ∃ y ∈ L, Ed ns rws x y := fun x hx => by
    rw [← e] at hx
    obtain ⟨_, h2⟩ := List.mem_filter.mp hx
    obtain ⟨q, hq, h3⟩ := List.any_eq_true.mp h2
    exact ⟨q.2, of_decide_eq_true h3, q, hq, rfl⟩
  intro x
  refine ⟨fun hx => ⟨?_, lv_of_closed cl hx⟩, fun ⟨h1, h2⟩ => ?_⟩
  · rw [hL] at hx; exact (List.mem_filter.mp hx).1
  · rw [hL]; exact List.mem_filter.mpr ⟨h1, hP x h1 h2⟩
theorem LiveAt.fixF {ns : List Str} {rws : List (List (Int × Str))} {S L : List Str} (h : LiveAt ns rws S L) (e : stp ns rws L = L) {D : Str → Bool} (hD : ∀ x ∈ S, (D x = true ↔ Lv ns rws x)) : L = S.filter D := by
  have hf := h.fix e
  obtain ⟨P, hL, hP⟩ := h.ex
  rw [hL]
  refine List.filter_congr fun x hx => ?_
  have h1 : P x = true ↔ D x = true := by
    rw [hD x hx]
    refine ⟨fun z => ((hf x).mp (by rw [hL]; exact List.mem_filter.mpr ⟨hx, z⟩)).2, hP x hx⟩
  cases q : P x <;> cases r : D x <;> simp_all
theorem stp_less {ns : List Str} {rws : List (List (Int × Str))} {L : List Str} (h : stp ns rws L ≠ L) : (stp ns rws L).length < L.length := by
  refine Nat.lt_of_le_of_ne (List.length_filter_le _ _) fun z => h ?_
  exact List.filter_eq_self.mpr (List.length_filter_eq_length_iff.mp z)
end My

namespace My
open PySem PySem.Spec PyProof.Rows L2
theorem inV_str (r : Str) (l : List Str) : inV (.str r) (l.map V.str) = decide (r ∈ l) := by
  unfold inV
  rw [List.any_map]
  induction l with
  | nil => rfl
  | cons x l ih =>
    rw [List.any_cons, ih]
    by_cases h : r = x
    · subst h
      simp [eqV]
    · have h1 : (x == r) = false := beq_eq_false_iff_ne.mpr fun z => h z.symm
      show ((x == r) || decide (r ∈ l)) = decide (r ∈ x :: l)
      rw [h1, Bool.false_or]
      exact decide_eq_decide.mpr ⟨fun z => List.mem_cons_of_mem _ z, fun z => (List.mem_cons.mp z).resolve_left h⟩
theorem flat_strs (l : List Str) : (l.map V.str).all flatV = true := by
  rw [List.all_map]
  exact List.all_eq_true.mpr fun _ _ => rfl
theorem dp_strs {K : PySem.W.Frag} {H : Hp} : ∀ l : List Str, DpAll K H (l.map V.str) (l.map PyData.str)
  | [] => .nil
  | x :: l => .cons (.str x) (dp_strs l)
theorem dp_sl {K : PySem.W.Frag} {H : Hp} {a : Addr} {l : List Str} (h : H a = some (.lst (l.map V.str))) : Dp K H (.ref a) (.list (l.map PyData.str)) := .lst (SqL.of h) (dp_strs l)
theorem eqv_strs : ∀ l m : List Str, PyData.eqvAll (l.map PyData.str) (m.map PyData.str) = decide (l = m)
  | [], [] => rfl
  | [], _ :: _ => rfl
  | _ :: _, [] => rfl
  | x :: l, y :: m => by
    show (PyData.eqv (.str x) (.str y) && PyData.eqvAll (l.map PyData.str) (m.map PyData.str)) = _
    rw [eqv_strs l m]
    simp only [PyData.eqv]
    by_cases h1 : x = y <;> by_cases h2 : l = m <;> simp [h1, h2]
theorem eqv_sl (l m : List Str) : PyData.eqv (.list (l.map PyData.str)) (.list (m.map PyData.str)) = decide (l = m) := by
  simp only [PyData.eqv]
  exact eqv_strs l m
theorem strOk_lets {x : Str} (h : Lets (tl x)) : PyData.strOk x = true := by
  unfold PyData.strOk
  rw [← Array.all_toList]
  exact List.all_eq_true.mpr fun c hc => decide_eq_true (by have := h c hc; omega)
theorem shaped_sl (l : List Str) (h : ∀ x ∈ l, Lets (tl x)) : SeqAt.shaped (.list (l.map PyData.str)) = true := by
  have h1 : PyData.canLayAll0 (l.map PyData.str) = true := by
    induction l with
    | nil => simp [PyData.canLayAll0]
    | cons x r ih => simp only [List.map_cons, PyData.canLayAll0, PyData.canLay0, ih fun y hy => h y (List.mem_cons_of_mem _ hy), strOk_lets (h x List.mem_cons_self), Bool.and_true]
  have h2 : PyData.depthAll (l.map PyData.str) = 0 := by
    clear h1 h
    induction l with
    | nil => simp only [List.map_nil, PyData.depthAll]
    | cons x r ih => simp only [List.map_cons, PyData.depthAll, PyData.depth, ih]; rfl
  unfold SeqAt.shaped
  simp only [PyData.canLay0, PyData.depth, h1, h2]
  rfl
theorem nod_len {F ns : List Str} (h : F.Nodup) (hs : ∀ x ∈ F, x ∈ ns) : F.length ≤ ns.length := by
  have nod : (F.map fun x => ns.idxOf x).Nodup := by
    refine List.pairwise_map.mpr (List.Pairwise.imp_of_mem (R := (· ≠ ·)) (fun {x y} hx hy hne e => hne ?_) h)
    have e1 := List.getElem_idxOf (List.idxOf_lt_length_iff.mpr (hs x hx))
    have e2 := List.getElem_idxOf (List.idxOf_lt_length_iff.mpr (hs y hy))
    rw [← e1, ← e2]
    simp only [e]
  have := pigeonQ ns.length _ nod fun y hy => by
    obtain ⟨x, hx, rfl⟩ := List.mem_map.mp hy
    exact List.idxOf_lt_length_iff.mpr (hs x hx)
  rwa [List.length_map] at this
/-! ### what stands behind a name -/
structure BSt (ns : List Str) (rws : List (List (Int × Str))) (nm : Str) (F T : List Str) : Prop where
  nod : F.Nodup
  bh : ∀ y ∈ F, Bh ns rws nm y
  td : ∀ y ∈ T, y = nm ∨ y ∈ F
  cl : ∀ z, (z = nm ∨ z ∈ F) → z ∉ T → ∀ q ∈ rowAt ns rws z, q.2 ∈ F
structure BRow (ns : List Str) (rws : List (List (Int × Str))) (nm x : Str) (i : Nat) (F T : List Str) : Prop where
  nod : F.Nodup
  bh : ∀ y ∈ F, Bh ns rws nm y
  td : ∀ y ∈ T, y = nm ∨ y ∈ F
  cl : ∀ z, (z = nm ∨ z ∈ F) → z ∉ T → z ≠ x → ∀ q ∈ rowAt ns rws z, q.2 ∈ F
  dn : ∀ q ∈ (rowAt ns rws x).take i, q.2 ∈ F
  xb : x = nm ∨ x ∈ F
section
variable {ns : List Str} {rws : List (List (Int × Str))} {nm x : Str} {F T : List Str} {i : Nat}
theorem BSt.start : BSt ns rws nm [] [nm] := ⟨List.nodup_nil, (fun _ h => nomatch h), fun y hy => .inl (List.mem_singleton.mp hy), fun z h n => by
  rcases h with rfl | h
  · exact absurd List.mem_cons_self n
  · exact nomatch h⟩
theorem BSt.fin (h : BSt ns rws nm F []) (y : Str) : y ∈ F ↔ Bh ns rws nm y := by
  refine ⟨h.bh y, fun g => ?_⟩
  induction g with
  | single e => obtain ⟨q, hq, rfl⟩ := e; exact h.cl nm (.inl rfl) (fun z => nomatch z) q hq
  | tail _ e ih => obtain ⟨q, hq, rfl⟩ := e; exact h.cl _ (.inr ih) (fun z => nomatch z) q hq
theorem BSt.pop (h : BSt ns rws nm F (T ++ [x])) : BRow ns rws nm x 0 F T :=
  ⟨h.nod, h.bh, fun y hy => h.td y (List.mem_append_left _ hy), fun z hz n1 n2 => h.cl z hz fun w => (List.mem_append.mp w).elim n1 fun w => n2 (List.mem_singleton.mp w), (fun _ h => nomatch h), h.td x (List.mem_append_right _ List.mem_cons_self)⟩
theorem BRow.done (h : BRow ns rws nm x (rowAt ns rws x).length F T) : BSt ns rws nm F T :=
  ⟨h.nod, h.bh, h.td, fun z hz n => by
    by_cases e : z = x
    · subst e
      have := h.dn
      rw [List.take_length] at this
      exact this
    · exact h.cl z hz n e⟩
theorem BRow.seen (h : BRow ns rws nm x i F T) {q : Int × Str} (hq : (rowAt ns rws x)[i]? = some q) (m : q.2 ∈ F) : BRow ns rws nm x (i + 1) F T :=
  ⟨h.nod, h.bh, h.td, h.cl, fun p hp => by
    rw [List.take_add_one, hq] at hp
    rcases List.mem_append.mp hp with hp | hp
    · exact h.dn p hp
    · rw [List.mem_singleton.mp hp]; exact m, h.xb⟩
theorem BRow.new (h : BRow ns rws nm x i F T) {q : Int × Str} (hq : (rowAt ns rws x)[i]? = some q) (m : q.2 ∉ F) : BRow ns rws nm x (i + 1) (F ++ [q.2]) (T ++ [q.2]) := by
  have ed : Ed ns rws x q.2 := ⟨q, List.mem_of_getElem? hq, rfl⟩
  refine ⟨?_, fun y hy => ?_, fun y hy => ?_, fun z hz n1 n2 p hp => ?_, fun p hp => ?_, h.xb.imp id fun w => List.mem_append_left _ w⟩
  · refine List.nodup_append.mpr ⟨h.nod, List.pairwise_singleton _ _, fun a ha b hb e => ?_⟩
    rw [List.mem_singleton.mp hb] at e
    exact m (e ▸ ha)
  · rcases List.mem_append.mp hy with hy | hy
    · exact h.bh y hy
    · rw [List.mem_singleton.mp hy]
      rcases h.xb with e | e
      · rw [← e]; exact .single ed
      · exact (h.bh x e).tail ed
  · rcases List.mem_append.mp hy with hy | hy
    · exact (h.td y hy).imp id fun w => List.mem_append_left _ w
    · exact .inr (List.mem_append_right _ hy)
  · refine List.mem_append_left _ (h.cl z ?_ (fun w => n1 (List.mem_append_left _ w)) n2 p hp)
    rcases hz with hz | hz
    · exact .inl hz
    · rcases List.mem_append.mp hz with hz | hz
      · exact .inr hz
      · exact absurd (List.mem_append_right _ hz) n1
  · rw [List.take_add_one, hq] at hp
    rcases List.mem_append.mp hp with hp | hp
    · exact List.mem_append_left _ (h.dn p hp)
    · rw [List.mem_singleton.mp hp]; exact List.mem_append_right _ List.mem_cons_self
end
/-- the rows of a book, standing -/
structure RowsAt (K : PySem.W.Frag) (G : Hp) (rr : Addr) (ns : List Str) (rws : List (List (Int × Str))) : Prop where
  ex : ∃ kvs : List (Key × V), G rr = some (.dK kvs) ∧ kvs.map (·.1) = ns.map Sum.inr ∧ DqAll K G (kvs.map (·.2)) (rws.map rowD)
theorem RowsAt.mono {K : PySem.W.Frag} {G G' : Hp} {rr : Addr} {ns : List Str} {rws : List (List (Int × Str))} (h : RowsAt K G rr ns rws) (e : Same G G') : RowsAt K G' rr ns rws := by
  obtain ⟨kvs, h1, h2, h3⟩ := h.ex
  exact ⟨kvs, e _ _ h1, h2, h3.mono e⟩
theorem dq_row {K : PySem.W.Frag} {G : Hp} {v : V} {row : List (Int × Str)} (h : Dq K G v (rowD row)) : ∃ a as, v = .ref a ∧ G a = some (.tup as) ∧ as.length = row.length ∧ ∀ (i : Nat) (q : Int × Str), row[i]? = some q → ∃ c, as[i]? = some (.ref c) ∧ G c = some (.tup (pv2 q)) := by
  cases h with
  | tup h1 h2 =>
    refine ⟨_, _, rfl, h1, by have := h2.len; rw [List.length_map] at this; exact this, ?_⟩
    clear h1
    generalize hd : (row.map fun q => PyData.tuple [.int q.1, .str q.2]) = ds at h2
    intro i q hq
    have hds : ds[i]? = some (.tuple [.int q.1, .str q.2]) := by rw [← hd, List.getElem?_map, hq]; rfl
    clear hd hq
    rename_i xs
    induction i generalizing xs ds with
    | zero =>
      cases h2 with
      | nil => cases hds
      | cons a b =>
        have e := Option.some.inj hds
        subst e
        cases a with
        | tup g1 g2 =>
          cases g2 with
          | cons g2 g3 =>
            cases g2
            cases g3 with
            | cons g3 g4 => cases g3; cases g4; exact ⟨_, rfl, g1⟩
    | succ i ih =>
      cases h2 with
      | nil => cases hds
      | cons a b => exact ih _ b hds
def spBehind (K : PySem.W.Frag) : Sp := fun vs H Q _ => ∃ (rr : Addr) (nm : Str) (b : Int) (ns : List Str) (rws : List (List (Int × Str))) (G : Hp), vs = [.ref rr, .str nm] ∧ Same G H ∧ RowsAt K G rr ns rws ∧ BookOk b ns rws ∧ nm ∈ ns ∧
  ∀ (l : Addr) (F : List Str) (H' : Hp), Same H H' → H l = none → H' l = some (.lst (F.map V.str)) → (∀ y, y ∈ F ↔ Bh ns rws nm y) → F.length ≤ 8 → Q (.ref l) H'
section
variable {P : Program} {w : World} {K : PySem.W.Frag} {mg : Str → Option Value} {base : Heap}
end
end My

namespace My
open PySem PySem.Spec PyProof.Rows L2
/-! ### the text of a book -/
theorem lenap (a b : Str) : (a ++ b).length = a.length + b.length := Str.length_append a b
theorem join_le (B : Nat) : ∀ ts : List Str, (∀ t ∈ ts, t.length ≤ B) → (Str.join ", " ts).length ≤ ts.length * (B + 2)
  | [], _ => by show (0 : Nat) ≤ _; exact Nat.zero_le _
  | [x], h => by
    show x.length ≤ _
    have := h x List.mem_cons_self
    rw [List.length_singleton]; omega
  | x :: y :: r, h => by
    have ih := join_le B (y :: r) fun t ht => h t (List.mem_cons_of_mem _ ht)
    show (x ++ ((", " : String) : Str) ++ Str.join ", " (y :: r)).length ≤ _
    have e : (((", " : String) : Str)).length = 2 := by decide
    have hx := h x List.mem_cons_self
    rw [lenap, lenap, e, List.length_cons, Nat.add_mul]
    omega
theorem tupleText_le (B : Nat) (ts : List Str) (h : ∀ t ∈ ts, t.length ≤ B) : (tupleText ts).length ≤ ts.length * (B + 2) + 3 := by
  unfold tupleText
  have j := join_le B ts h
  have e1 : ((("(" : String) : Str)).length = 1 := by decide
  rw [lenap, lenap, e1]
  have e2 : (((if ts.length == 1 then ",)" else ")" : String) : Str)).length ≤ 2 := by
    cases ts.length == 1 <;> decide
  omega
theorem dictText_le (B : Nat) (ts : List Str) (h : ∀ t ∈ ts, t.length ≤ B) : (dictText ts).length ≤ ts.length * (B + 2) + 2 := by
  unfold dictText
  have j := join_le B ts h
  have e1 : ((("{" : String) : Str)).length = 1 := by decide
  have e2 : ((("}" : String) : Str)).length = 1 := by decide
  rw [lenap, lenap, e1, e2]
  omega
theorem shownAll_map : ∀ ds : List PyData, PyData.shownAll ds = ds.map PyData.shown
  | [] => rfl
  | d :: ds => by rw [List.map_cons, ← shownAll_map ds]; simp only [PyData.shownAll]
theorem shownKv_map : ∀ ds : List (PyData × PyData), PyData.shownKv ds = ds.map fun p => p.1.shown ++ ((": " : String) : Str) ++ p.2.shown
  | [] => rfl
  | (k, v) :: ds => by rw [List.map_cons, ← shownKv_map ds]; simp only [PyData.shownKv]
theorem showAll_of : ∀ ds : List PyData, (∀ d ∈ ds, d.showable = true) → PyData.showableAll ds = true
  | [], _ => rfl
  | d :: ds, h => by simp only [PyData.showableAll, h d List.mem_cons_self, showAll_of ds fun x hx => h x (List.mem_cons_of_mem _ hx), Bool.and_self]
theorem showKv_of : ∀ ds : List (PyData × PyData), (∀ d ∈ ds, d.1.showable = true ∧ d.2.showable = true) → PyData.showableKv ds = true
  | [], _ => rfl
  | (k, v) :: ds, h => by
    have := h (k, v) List.mem_cons_self
    simp only [PyData.showableKv, this.1, this.2, showKv_of ds fun x hx => h x (List.mem_cons_of_mem _ hx), Bool.and_self]
theorem depthAll_le (k : Nat) : ∀ ds : List PyData, (∀ d ∈ ds, d.depth ≤ k) → PyData.depthAll ds ≤ k
  | [], _ => Nat.zero_le _
  | d :: ds, h => by
    have h1 := h d List.mem_cons_self
    have h2 := depthAll_le k ds fun x hx => h x (List.mem_cons_of_mem _ hx)
    simp only [PyData.depthAll]; omega
theorem depthKv_le (k : Nat) : ∀ ds : List (PyData × PyData), (∀ d ∈ ds, d.1.depth ≤ k ∧ d.2.depth ≤ k) → PyData.depthKv ds ≤ k
  | [], _ => Nat.zero_le _
  | (a, b) :: ds, h => by
    have h1 := h (a, b) List.mem_cons_self
    have h2 := depthKv_le k ds fun x hx => h x (List.mem_cons_of_mem _ hx)
    simp only [PyData.depthKv]
    have h3 : a.depth ≤ k := h1.1
    have h4 : b.depth ≤ k := h1.2
    omega
theorem noListAll : ∀ ds : List PyData, (∀ d ∈ ds, hasList d = false) → hasListAll ds = false
  | [], _ => by simp only [hasListAll]
  | d :: ds, h => by simp only [hasListAll, h d List.mem_cons_self, noListAll ds fun x hx => h x (List.mem_cons_of_mem _ hx), Bool.or_self]
theorem noListKv : ∀ ds : List (PyData × PyData), (∀ d ∈ ds, hasList d.1 = false ∧ hasList d.2 = false) → hasListKv ds = false
  | [], _ => by simp only [hasListKv]
  | (k, v) :: ds, h => by
    have := h (k, v) List.mem_cons_self
    simp only [hasListKv, this.1, this.2, noListKv ds fun x hx => h x (List.mem_cons_of_mem _ hx), Bool.or_self]
structure Shw (B k : Nat) (d : PyData) : Prop where
  sh : d.showable = true
  ln : d.shown.length ≤ B
  dp : d.depth ≤ k
  nl : hasList d = false
theorem shw_int {i : Int} (h0 : 0 ≤ i) (h1 : i ≤ 10) : Shw 1921 0 (.int i) := by
  have hl : i.natAbs.log2 < 1920 := Nat.lt_trans (PySem.Flt.log2_lt_of (k := 1900) (by decide) (Nat.lt_of_le_of_lt (show i.natAbs ≤ 10 by omega) (by decide))) (by decide)
  refine ⟨?_, int_text_len_1921 hl, by simp only [PyData.depth]; omega, by simp only [hasList]⟩
  simp only [PyData.showable]; exact decide_eq_true hl
theorem shw_str {x : Str} (h : NameOk x) : Shw 82 0 (.str x) := by
  refine ⟨by simp only [PyData.showable], ?_, by simp only [PyData.depth]; omega, by simp only [hasList]⟩
  have := PySem.StrLaws.reprText_len x fun c hc => by have := h.lets c hc; omega
  have h8 := h.hi
  show (reprText x).length ≤ 82
  omega
theorem shw_tuple {B k n : Nat} {ds : List PyData} (h : ∀ d ∈ ds, Shw B k d) (hn : ds.length ≤ n) : Shw (n * (B + 2) + 3) (k + 1) (.tuple ds) := by
  refine ⟨by simp only [PyData.showable]; exact showAll_of ds fun d hd => (h d hd).sh, ?_, by simp only [PyData.depth]; have := depthAll_le k ds fun d hd => (h d hd).dp; omega, by simp only [hasList]; exact noListAll ds fun d hd => (h d hd).nl⟩
  simp only [PyData.shown]
  rw [shownAll_map]
  have := tupleText_le B (ds.map PyData.shown) fun t ht => by
    obtain ⟨d, hd, rfl⟩ := List.mem_map.mp ht
    exact (h d hd).ln
  rw [List.length_map] at this
  have := Nat.mul_le_mul_right (B + 2) hn
  omega
theorem Shw.up {B B' k k' : Nat} {d : PyData} (h : Shw B k d) (h1 : B ≤ B') (h2 : k ≤ k') : Shw B' k' d := ⟨h.sh, by have := h.ln; omega, by have := h.dp; omega, h.nl⟩
theorem shw_row {b : Int} {ns : List Str} {row : List (Int × Str)} {m : Nat} (hb : b ≤ 10) (hn : ∀ x ∈ ns, NameOk x) (h : RowIn b ns m row) (hm : m ≤ 12) : Shw 60000 2 (rowD row) := by
  unfold rowD
  refine (shw_tuple (B := 4000) (k := 1) (n := 12) (fun d hd => ?_) (by rw [List.length_map]; have := h.len; omega)).up (by decide) (by decide)
  obtain ⟨q, hq, rfl⟩ := List.mem_map.mp hd
  have i := h.mem q hq
  refine (shw_tuple (B := 1921) (k := 0) (n := 2) (fun d hd => ?_) (by simp)).up (by decide) (by decide)
  rcases List.mem_cons.mp hd with rfl | hd
  · exact shw_int i.1 (by have := i.2.1; omega)
  · rw [List.mem_singleton.mp hd]; exact (shw_str (hn _ i.2.2)).up (by decide) (by decide)
theorem shw_book {b : Int} {ns : List Str} {rws : List (List (Int × Str))} (B : BookOk b ns rws) : Shw 2000000 5 (bookD b ns rws) := by
  have key : ∀ d ∈ (ns.zip rws).map (fun z => (PyData.str z.1, rowD z.2)), Shw 82 0 d.1 ∧ Shw 60000 2 d.2 := fun d hd => by
    obtain ⟨z, hz, rfl⟩ := List.mem_map.mp hd
    obtain ⟨h1, h2⟩ := List.of_mem_zip hz
    exact ⟨shw_str (B.ok _ h1), shw_row B.b1 B.ok (B.rows _ h2) (by decide)⟩
  have dict : Shw 600000 3 (.dict ((ns.zip rws).map fun z => (PyData.str z.1, rowD z.2))) := by
    refine ⟨by simp only [PyData.showable]; exact showKv_of _ fun d hd => ⟨(key d hd).1.sh, (key d hd).2.sh⟩, ?_, ?_, by simp only [hasList]; exact noListKv _ fun d hd => ⟨(key d hd).1.nl, (key d hd).2.nl⟩⟩
    · simp only [PyData.shown]
      rw [shownKv_map]
      have := dictText_le 60100 (((ns.zip rws).map fun z => (PyData.str z.1, rowD z.2)).map fun p => p.1.shown ++ ((": " : String) : Str) ++ p.2.shown) fun t ht => by
        obtain ⟨d, hd, rfl⟩ := List.mem_map.mp ht
        have h1 := (key d hd).1.ln
        have h2 := (key d hd).2.ln
        have e : (((": " : String) : Str)).length = 2 := by decide
        rw [lenap, lenap, e]; omega
      have l8 : (((ns.zip rws).map fun z => (PyData.str z.1, rowD z.2)).map fun p => p.1.shown ++ ((": " : String) : Str) ++ p.2.shown).length ≤ 8 := by
        rw [List.length_map, List.length_map, List.length_zip]
        have := B.n8
        omega
      have := Nat.mul_le_mul_right (60100 + 2) l8
      omega
    · simp only [PyData.depth]
      have := depthKv_le 2 _ fun d hd => ⟨by have := (key d hd).1.dp; omega, (key d hd).2.dp⟩
      omega
  unfold bookD
  refine (shw_tuple (B := 600000) (k := 3) (n := 2) (fun d hd => ?_) (by simp)).up (by decide) (by decide)
  rcases List.mem_cons.mp hd with rfl | hd
  · exact (shw_int (by have := B.b0; omega) B.b1).up (by decide) (by decide)
  · rw [List.mem_singleton.mp hd]; exact dict
/-! ### what a standing book is -/
theorem keys_of {K : PySem.W.Frag} {G : Hp} : ∀ {kvs : List (Key × V)} {ns : List Str}, DqAll K G (kvs.map fun kv => kV kv.1) (ns.map PyData.str) → kvs.map (·.1) = ns.map Sum.inr
  | [], [], _ => rfl
  | [], _ :: _, h => by cases h
  | _ :: _, [], h => by cases h
  | (k, v) :: kvs, n :: ns, h => by
    cases h with
    | cons h1 h2 =>
      have e : k = Sum.inr n := by
        cases k with
        | inl i => exact nomatch h1
        | inr x => 
          have h1' : Dq K G (.str x) (.str n) := h1
          cases h1'
          rfl
      rw [List.map_cons, List.map_cons, keys_of h2, e]
theorem dq_book {K : PySem.W.Frag} {G : Hp} {v : V} {b : Int} {ns : List Str} {rws : List (List (Int × Str))} (hl : rws.length = ns.length) (h : Dq K G v (bookD b ns rws)) : ∃ bk rr, v = .ref bk ∧ G bk = some (.tup [.int b, .ref rr]) ∧ RowsAt K G rr ns rws := by
  cases h with
  | tup h1 h2 =>
    cases h2 with
    | cons h2 h3 =>
      cases h2
      cases h3 with
      | cons h3 h4 =>
        cases h4
        cases h3 with
        | dct g1 g2 g3 =>
          refine ⟨_, _, rfl, h1, _, g1, keys_of (by
            have e2 : ((ns.zip rws).map fun z => (PyData.str z.1, rowD z.2)).map (·.1) = ns.map PyData.str := by
              rw [List.map_map]
              have := congrArg (List.map PyData.str) (List.map_fst_zip (l₁ := ns) (l₂ := rws) (by omega))
              rw [List.map_map] at this
              exact this
            rw [e2] at g2
            exact g2), ?_⟩
          rw [zipVals hl] at g3
          exact g3
end My

namespace My
open PySem PySem.Spec PyProof.Rows L2
/-! ### an exception that is caught and kept -/
/-- the exception object at a, of the class cls, with the dict d -/
def ExK (cls : Value) (d : Option Addr) (a : Addr) : HO := .ext fun h => ∃ (ob : Obj) (fl : Array Value), h.get? a = some ob ∧ Zc cls d ob ∧ ob.data = .fields fl
theorem exK_ok {P : Program} {w : World} {H : Hp} {h : Heap} {cls : Value} {d : Option Addr} {a : Addr} {ob : Obj} {fl : Array Value} (e : h.get? a = some ob) (z : Zc cls d ob) (q : ob.data = .fields fl) : ObjOk P w H h a (ExK cls d a) :=
  ⟨⟨ob, fl, e, z, q⟩, ⟨ob, e⟩, fun _ _ ⟨o1, f1, e1, z1, q1⟩ k => ⟨o1, f1, k o1 e1, z1, q1⟩⟩
section
variable {X : Cx} {pins : List (Addr × Obj)} {σ : L2.St} {H : Hp} {s : Shared}
theorem track {a : Addr} {ob : Obj} {fl : Array Value} {cls : Value} {d : Option Addr} (I : Inv X pins σ H s) (e : s.heap.get? a = some ob) (z : Zc cls d ob) (q : ob.data = .fields fl)
    (na : H a = none) (n0 : X.s_0.heap.get? a = none) (nL : a ≠ X.env.locals) (nP : ∀ p ∈ X.pn ++ pins, p.1 ≠ a) : Inv X pins σ (upd H a (ExK cls d a)) s := by
  have cne : ∀ y c, X.env.cells.lookup y = some c → c ≠ a := fun y c hc w => by
    obtain ⟨v, o1, e1, e2⟩ := I.cell y c hc
    rw [w, e] at e1
    cases e1
    simp [q] at e2
  refine ⟨I.ok, I.os, I.bare, ⟨I.base.keep, I.base.slot, fun b o hb hn hx => ?_, I.base.there, fun b xs hb => ?_, fun b o u hb => ?_, fun b ps hb => ?_⟩, I.loc, I.cell, ?_, fun y c hc => ?_, fun p hp => ?_, I.hok.laidN (fun _ _ h => h) na (exK_ok e z q), I.len⟩
  · rw [upd_ne (fun w => by rw [w, n0] at hb; cases hb)]
    exact I.base.free b o hb hn hx
  · have t := I.base.tups b xs hb
    rw [upd_ne (ne_of_none t na)]; exact t
  · have t := I.base.frzs b o u hb
    rw [upd_ne (ne_of_none t na)]; exact t
  · obtain ⟨mo, t⟩ := I.base.tbls b ps hb
    exact ⟨mo, by rw [upd_ne (ne_of_none t na)]; exact t⟩
  · rw [upd_ne nL.symm]; exact I.free
  · rw [upd_ne (cne y c hc)]; exact I.freeC y c hc
  · obtain ⟨t1, t2, t3⟩ := I.pin p hp
    exact ⟨t1, by rw [upd_ne (nP p hp)]; exact t2, t3⟩
end
/-- what the clause wishes: every exception of the body is of the class; it stays known behind the suite -/
def wKeep (K : PySem.W.Frag) (c : Value) (i : Nat) (ts : Addr → Value → Option Addr → TS) (D : Ends) : WX := fun cls d σ H =>
  PySem.W.exmOne K cls c = some true ∧ ∀ a, H a = none → ts a cls d { nx := fun σ1 H1 => D.nx (σ1.set i none) (upd H1 a (ExK cls d a)), rt := fun _ _ => False, bk := fun _ _ => False, ct := fun _ _ => False } (σ.set i (some (.ref a))) H
section
variable {X : Cx} {x n : Str} {c : Value} {i : Nat} {body suite : List Stmt} {st0 : Stmt} {np po po2 : Pos} {tb : WX → TS} {ts : Addr → Value → Option Addr → TS}
theorem ps_try_keep (hst : X.stack = X.env :: X.outer) (hfr : X.env.frame = some X.env.locals) (hex : X.ex = []) (hnd : X.N.Nodup) (hat : X.N[i]? = some n) (hlo : X.env.kindOf n = some .local) (hnm : Names X x c)
    (hbo : ∀ (W : WX) (pl : List (Addr × Obj)) (xe : Value → Shared → Prop), Takes (X.tr pl xe) W → PassesOwn (model X.prog X.w) X.A X.env xe → PSs (X.tr pl xe) body (tb W))
    (hsu : ∀ (a : Addr) (ob : Obj) (cls : Value) (d : Option Addr) (pl : List (Addr × Obj)), Zc cls d ob → (∃ fl, ob.data = .fields fl) → PSs (X.suite a ((a, ob) :: pl)) (st0 :: suite) (ts a cls d)) :
    PS X (.Try body [.ExceptHandler (some (.Name x np)) (some n) (st0 :: suite) po2] [] [] po) (fun D σ H => tb (wKeep X.K c i ts D) D σ H) := by
  refine ⟨fun pins s σ H D I h => ?_⟩
  have AF : X.A.frames = some (X.env :: X.outer) := by rw [I.ok.frames, hst]
  refine wpAny_Try_except ?_
  have bodyRun := (hbo (wKeep X.K c i ts D) (X.pn ++ pins)
    (fun e t1 => wpAny (model X.prog X.w) X.A (noteFrame e X.env) (fun _ t2 => wpAny (model X.prog X.w) X.A (setFlight e none)
      (fun _ t3 => wpAny (model X.prog X.w) X.A (handleBy e X.env [.ExceptHandler (some (.Name x np)) (some n) (st0 :: suite) po2]) (SP X pins D) X.xe t3) X.xe t2) X.xe t1)
    (fun u t air => ?_) PassesOwn.looking).run [] s σ H D (I.toTry _) h
  · refine wpAny_mono bodyRun (fun f t sp => ?_) fun _ _ he => he
    cases f with
    | next =>
      obtain ⟨σ1, H1, J, q⟩ := sp
      exact wpAny_execs_nil ⟨σ1, H1, J.ofTry I.ok, q⟩
    | brk => obtain ⟨σ1, H1, J, q⟩ := sp; exact ⟨σ1, H1, J.ofTry I.ok, q⟩
    | cont => obtain ⟨σ1, H1, J, q⟩ := sp; exact ⟨σ1, H1, J.ofTry I.ok, q⟩
    | ret u => obtain ⟨v, σ1, H1, J, r, q⟩ := sp; exact ⟨v, σ1, H1, J.ofTry I.ok, r, q⟩
  · obtain ⟨a, B, sI, pins1, σ1, H1, cls, d, rfl, Jt, ground, rise, sky, na, eos, bare, isC, wish⟩ := air
    have J : Inv X pins σ1 H1 sI := Jt.ofTry I.ok
    rw [show (X.tr (X.pn ++ pins) _).stack = X.env :: X.outer from hst] at sky
    show wpAny (model X.prog X.w) X.A (noteFrame (.ref a) X.env) _ _ _
    refine Sky.land Zc.steady AF hfr sky fun h3 fly rise3 => ?_
    have J3 : Inv X pins σ1 H1 { t with heap := h3 } := J.landed ground fly.1 (rise.trans rise3) eos bare
    obtain ⟨ob3, fl3, e3, z3, q3⟩ := fly.there
    have offFr : a ∉ frs (X.env :: X.outer) := fun hm => by
      obtain ⟨_, o1, e1, hno⟩ := fly.2.2.1.mem hm
      rw [e3] at e1; cases e1
      exact hno _ q3
    have offSt : a ∉ frs X.stack := by rw [hst]; exact offFr
    have offL : a ≠ X.env.locals := fun w => offFr (List.mem_filterMap.mpr ⟨X.env, List.mem_cons_self, by rw [hfr, w]⟩)
    have offF : a ∉ X.fs := fun hm => by
      obtain ⟨en, hen, qq⟩ := List.mem_filterMap.mp hm
      exact offFr (List.mem_filterMap.mpr ⟨en, List.mem_cons_of_mem _ hen, qq⟩)
    have fresh : ∀ o, sI.heap.get? a ≠ some o := fun o w => by
      have := ground a o w offSt
      rw [fly.2.1] at this; cases this
    have n0 : X.s_0.heap.get? a = none := by
      cases w : X.s_0.heap.get? a with
      | none => rfl
      | some o =>
        obtain ⟨o1, w1⟩ := J.base.there a o w (by rw [hex]; exact fun z => nomatch z)
        exact absurd w1 (fresh o1)
    have nP : ∀ p ∈ X.pn ++ pins, p.1 ≠ a := fun p hp w => by
      obtain ⟨w1, _⟩ := J.pin p hp
      rw [w] at w1
      exact fresh _ w1
    have S3 := J3.suite e3 q3 na offL offF
    refine wpAny_handleBy_cons (codeAny_handlers_test ?_) (by intro w; cases w)
    have LT : PySem.W.Looks (model X.prog X.w) h3 (typeOf (.ref a)) cls := fun A Q E s1 k w => wpAny_typeOf_ref (k _ _ e3) (by rw [z3.1]; exact w)
    have LM := PySem.W.exm_one (M := model X.prog X.w) (J3.kIn) LT isC
    have test : ∀ {Q : Value → Shared → Prop} {E : Value → Shared → Prop}, Q c { t with heap := h3 } → wpAny (model X.prog X.w) (X.A.mark (some (.ref a))) (eval (.Name x np) X.env) Q E { t with heap := h3 } := fun {Q E} w => by
      obtain ⟨g1, g2, g3 | ⟨g3, g4, g5⟩⟩ := hnm
      · exact ld_glob (X := X.suite a ((a, ob3) :: (X.pn ++ pins))) S3 g1 g3 w g2
      · exact ld_blt (X := X.suite a ((a, ob3) :: (X.pn ++ pins))) S3 g1 g3 g4 w g5 g2
    refine test (LM.here (codeAny_handlers_suite_as ?_))
    refine HandSPX.lands_againZ fly fun h4 fly4 rise4 => ?_
    have J4 : Inv X pins σ1 H1 { t with heap := h4 } := J.landed ground fly4.1 ((rise.trans rise3).trans rise4) eos bare
    obtain ⟨ob4, fl4, e4, z4, q4⟩ := fly4.there
    refine store_ok (X := X.suite a ((a, ob4) :: (X.pn ++ pins))) (v := .ref a) (J4.suite e4 q4 na offL offF) hnd hat (.inl hlo) rfl (fun s5 S5 => ?_) (.inr hlo)
    refine wpAny_mono ((hsu a ob4 cls d (X.pn ++ pins) z4 ⟨_, q4⟩).run [] s5 _ H1 _ S5 (wish a na)) (fun f s6 sp => ?_) (fun _ _ w => False.elim w)
    cases f with
    | next =>
      obtain ⟨σ6, H6, S6, q6⟩ := sp
      obtain ⟨p1, p2, _⟩ := S6.pin (a, ob4) (List.mem_append_left _ List.mem_cons_self)
      have T6 := track (S6.unsuite I.ok) p1 z4 q4 p2 n0 offL nP
      exact gone_ok T6 hnd hat hlo fun s7 J7 => ⟨_, _, J7, q6⟩
    | brk => obtain ⟨_, _, _, w⟩ := sp; exact False.elim w
    | cont => obtain ⟨_, _, _, w⟩ := sp; exact False.elim w
    | ret u => obtain ⟨_, _, _, _, _, w⟩ := sp; exact False.elim w
end
end My

namespace My
open PySem PySem.Spec PyProof.Rows L2
/-! ### D.__init__(self, ..), D an own class that has none of its own -/
structure DInit (K : PySem.W.Frag) (D : Addr) : Prop where
  rd : PySem.W.readsIn K D (.type "type") = true
  ga : PySem.W.specialIn K (.ref D) "__getattribute__" = some (some (.builtin "type.__getattribute__"))
  ini : PySem.W.findCls K (.ref D) (.type "type") "__init__" = some (.val (.builtin "ValueError.__init__"))
section
variable {X : Cx} {e : Expr} {es : List Expr} {ta : TA} {x : Str} {D : Addr} {q1 q2 q3 : Pos}
theorem pe_dinit {pl : Sem Bool} (gx : Gl X x) (mx : X.mg x = some (.ref D)) (T : DInit X.K D) (args : PA X (e :: es) ta) (ndb : (x == ("__debug__" : Str)) = false := by decide)
    (he : eval (.Call (.Attribute (.Name x q1) "__init__" q2) (e :: es) [] q3) X.env = (do
      let owner ← eval (.Name x q1) X.env
      standAt q2.atName
      let (fn, pre) ← holding [owner] (getMethod owner "__init__" pl)
      callWith q3 fn pre (backTo q3 (starEach (e :: es) X.env)) (backToKw q3 (keywordEach [] X.env))) := by rfl)
    (h1 : starEach (e :: es) X.env = (false, eval e X.env) :: starEach es X.env := by rfl) (h2 : (backTo q3 (starEach es X.env)).any (·.1) = false := by rfl) :
    PE X (.Call (.Attribute (.Name x q1) "__init__" q2) (e :: es) [] q3) (tVeI X.K ta) := by
  refine ⟨fun pins s σ H Q I want => ?_⟩
  refine PySem.W.methodCall_KW (ld_glob I gx mx (PySem.W.method_cls I.kIn T.ga (PySem.W.cls_value I.kIn T.rd T.ini (by decide +kernel) ?_)) ndb) he
  show wpAny _ _ (callWith q3 (Value.builtin "ValueError.__init__") [] (backTo q3 (starEach (e :: es) X.env)) []) _ _ _
  refine PyProof.Rows.callWith_method1 (thn (args.run q3 pins _ σ H _ (I.tok _) want) fun us t ⟨vs, H1, J, rel, a, C, ws, ev, few, TC, at_a, q⟩ => ?_) h1 h2
  subst ev
  cases rel with
  | @cons _ u0 _ ur r0 rs =>
    obtain rfl : u0 = Value.ref a := r0
    exact oinit_ok TC J at_a (by rw [← Paired.length rs, sizeLine_eq]; omega) fun t' J' => ⟨.non, H1, J', rfl, q⟩
end
/-! ### C(e, ..) as a value, C an own exception class with its own __init__ -/
def tMkV (C : Addr) (sp : Sp) (ta : TA) : TE := fun σ H Q => ta σ H fun vs H1 => vs.length ≤ 1000 ∧ ∀ a, H1 a = none → sp (.ref a :: vs) (upd H1 a (exo a C none)) (fun v H2 => v = .non ∧ Q (.ref a) H2) (fun _ _ _ => False)
section
variable {X : Cx} {e : Expr} {es : List Expr} {ta : TA} {x : Str} {C fI : Addr} {q1 q3 : Pos} {CX : CXT} {k : Nat} {fd : FuncData} {ps : List Str} {sp : Sp}
theorem pe_oexV (T : OexC X.K C) (ini : PySem.W.findIn X.K (.ref C) "__init__" = some (some (.ref fI))) (tyI : PySem.W.typeIn X.K (.ref fI) = some (.type "function")) (FI : FnOk X.prog X.w X.K X.mg X.base CX k fI fd ps sp) (room : Room (k + 1) X.A)
    (bd : Binds X.K fd ps []) (pass : Passes CX X (fun _ _ _ => False)) (gx : Gl X x) (mx : X.mg x = some (.ref C)) (args : PA X (e :: es) ta) (ndb : (x == ("__debug__" : Str)) = false := by decide)
    (h1 : starEach (e :: es) X.env = (false, eval e X.env) :: starEach es X.env := by rfl) (h2 : (backTo q3 (starEach es X.env)).any (·.1) = false := by rfl) :
    PE X (.Call (.Name x q1) (e :: es) [] q3) (tMkV C sp ta) := by
  refine ⟨fun pins s σ H Q I want => ?_⟩
  obtain ⟨nm, qn, N, bs, bm, sn, sub, ab, col, dd, k0, k1, k2, k3, k5, hC, hbm⟩ := T.cls
  refine wpAny_Call_Name_kw (ld_glob I gx mx ?_ ndb)
  refine PySem.W.callWith_K (h₀ := X.base) I.ok.mod.kin T.kC (thn (args.run q3 pins s σ H _ I want) fun us t ⟨vs, H1, J, rel, few, made⟩ => ⟨J.kIn, ?_⟩) h1 h2
  show wpAny _ _ (call (.ref C) us) _ _ _
  obtain ⟨hp, g, dr, tk, os⟩ := t
  have up1 : hp.objs.size ≤ hp.objs.size + 1 := Nat.le_succ _
  have new := made (hp.objs.size + 1) (J.hok.fresh up1)
  have here : ((hp.push (PySem.W.kdv_tup us)).push (PySem.HandSPX.excO C hp.objs.size)).get? (hp.objs.size + 1) = some (PySem.HandSPX.excO C hp.objs.size) := by heap_get
  have J2 : Inv X pins σ (upd H1 (hp.objs.size + 1) (exo (hp.objs.size + 1) C none)) ⟨(hp.push (PySem.W.kdv_tup us)).push (PySem.HandSPX.excO C hp.objs.size), g, dr, tk, os⟩ :=
    J.laid (t' := tk) (fun b o w => Heap.get?_push_of_some _ (Heap.get?_push_of_some _ w)) up1 (exo_ok here)
  have rel2 : Vals (V.ref (hp.objs.size + 1) :: vs) (Value.ref (hp.objs.size + 1) :: us) := .cons rfl rel
  have many : (Value.ref (hp.objs.size + 1) :: us).length = ps.length := by
    rw [← rel2.length]; exact FI.len _ _ _ _ new
  have fit : us.length ≤ sizeLine := by rw [← Paired.length rel, sizeLine_eq]; omega
  refine wpAny_call (PySem.HandSPX.call_own F.excBase_ValueError (fun Y => PySem.HandSPX.refsVE_contains Y bm hbm) (J.kIn _ _ hC) (PySem.W.looks_findIn J.kIn ini) (fun self => PySem.W.bind_fn J.kIn self tyI) fit
    (codeAny_mono (FI.run _ X.stack _ _ ⟨Value.ref (hp.objs.size + 1) :: us, []⟩ (Value.ref (hp.objs.size + 1) :: us) _ _ (fun _ _ _ => False) (room.make C us []) (J2.env0.make C us []) (by simpa using bd _ (Value.ref (hp.objs.size + 1) :: us) J2.kIn (by simpa using many)) rel2 new) fun r t' got => ?_))
  cases r with
  | error er => exact pass pins σ _ _ er t' J2 got
  | ok fl =>
    cases fl with
    | ret u =>
      obtain ⟨v, H2, e1, e2, un2, ok2, rv, ev, q⟩ := got
      subst ev
      exact ⟨rv, .ref (hp.objs.size + 1), H2, J2.call' (ch := []) e1 un2 ok2 e2 (fun b z => absurd z (by simp)), rfl, q⟩
    | next => exact False.elim got
    | brk => exact False.elim got
    | cont => exact False.elim got
end
end My

namespace My
open PySem PySem.Spec PyProof.Rows L2
/-! ### isinstance and fields of an exception that is known -/
def IsX (H : Hp) (a C : Addr) (d : Option Addr) : Prop := H a = some (exo a C d) ∨ H a = some (ExK (.ref C) d a) ∨ (d = none ∧ H a = some (ExO (.ref C) a))
def HasF (H : Hp) (dd : Addr) (fs : List (Str × V)) : Prop := H dd = some (exd dd fs) ∨ H dd = some (.xd fs)
structure ExI (K : PySem.W.Frag) (D : Addr) : Prop where
  cl : (PySem.W.clsIn K D).isSome = true
  hg : PySem.W.findIn K (.ref D) "__getattribute__" = some (some (.builtin "BaseException.__getattribute__"))
  hk : PySem.W.findIn K (.ref D) "__getattr__" = some none
  hs : PySem.W.subIn K (.ref D) (.type "BaseException") = some true
  ha : PySem.W.findIn K (.ref D) "__class__" = some (some (.builtin "object.__class__"))
  hn : PySem.W.specialIn K (.builtin "object.__class__") "__get__" = some (some (.builtin "getset_descriptor.__get__"))
  ht : PySem.W.takesIn K (.builtin "object.__class__") = some true
  hm : PySem.W.mroIn K D (.type "object") = some true
section
variable {X : Cx} {pins : List (Addr × Obj)} {σ : L2.St} {H : Hp} {s : Shared}
theorem isx_at {a C : Addr} {d : Option Addr} (I : Inv X pins σ H s) (h : IsX H a C d) : ∃ ob fl, s.heap.get? a = some ob ∧ Zc (.ref C) d ob ∧ ob.data = .fields fl := by
  rcases h with h | h | ⟨rfl, h⟩
  · obtain ⟨t, e⟩ := exo_at I.hok h
    exact ⟨_, _, e, ⟨rfl, rfl⟩, rfl⟩
  · obtain ⟨⟨ob, fl, e, z, q⟩, _⟩ := I.hok a _ h
    exact ⟨ob, fl, e, z, q⟩
  · obtain ⟨⟨ob, fl, e, z, q, _⟩, _⟩ := I.hok a _ h
    exact ⟨ob, fl, e, z, q⟩
theorem hasf_at {dd : Addr} {fs : List (Str × V)} (I : Inv X pins σ H s) (h : HasF H dd fs) : ∃ mA, s.heap.Ns1 dd mA ∧ ∀ f, RelO (fs.lookup f) (mA f) := by
  rcases h with h | h
  · exact exd_at I.hok h
  · exact I.hok dd _ h
theorem inst_at {a C : Addr} {d : Option Addr} (I : Inv X pins σ H s) (h : IsX H a C d) (hd : ∀ dd, d = some dd → ∃ fs, HasF H dd fs) : ∃ ob od, PySem.W.InstAt s.heap a ob C od := by
  obtain ⟨ob, fl, e, ⟨z1, z2⟩, q⟩ := isx_at I h
  have nc : PySem.W.notCls ob = true := by unfold PySem.W.notCls; rw [q] <;> rfl
  cases d with
  | none => exact ⟨ob, none, e, z1, nc, by rw [z2]; trivial⟩
  | some dd =>
    obtain ⟨fs, hf⟩ := hd dd rfl
    obtain ⟨mA, hns, _⟩ := hasf_at I hf
    obtain ⟨od, ho, _⟩ := lookIn_ns hns
    exact ⟨ob, some od, e, z1, nc, by rw [z2]; exact ho⟩
def rIsK (K : PySem.W.Frag) : List V → Hp → VK → Prop := fun xs H Q => ∃ (a D : Addr) (d : Option Addr) (c : V) (cv : Value) (b : Bool), xs = [.ref a, c] ∧ ExI K D ∧ IsX H a D d ∧ (∀ dd, d = some dd → ∃ fs, HasF H dd fs) ∧ (∀ u, RelV c u → u = cv) ∧ PySem.W.kitOne K (.ref D) cv = some b ∧ Q (.bl b) H
theorem call_isK : CallR X (.builtin "isinstance") (rIsK X.K) := by
  intro pins s σ H xs us Q I r h
  obtain ⟨a, D, d, c, cv, b, rfl, T, hx, hd, hcv, e, q⟩ := h
  cases r with
  | cons r1 rr =>
    cases rr with
    | cons r2 rr =>
      cases rr
      cases r1
      obtain rfl := hcv _ r2
      obtain ⟨ob, od, J⟩ := inst_at I hx hd
      exact PySem.W.kia_one (PySem.W.kitx_exc T.cl T.hg T.hk T.hs T.ha T.hn T.ht T.hm) I.kIn J e (fun z => nomatch z) fun tk => ⟨.bl b, H, I.kept (t' := tk) fun _ _ z => z, rfl, q⟩
/-- e.f, e an exception with a dict -/
def tXk (K : PySem.W.Frag) (f : Str) (te : TE) : TE := fun σ H Q => te σ H fun x H1 => ∃ (a C dd : Addr) (fs : List (Str × V)) (v : V), x = .ref a ∧ XfC K C ∧ PySem.W.findIn K (.ref C) f = some none ∧ IsX H1 a C (some dd) ∧ HasF H1 dd fs ∧ fs.lookup f = some v ∧ Q v H1
theorem pe_xk {e : Expr} {te : TE} {pos : Pos} {n : Str} (he : PE X e te) (hb : attributeBase e n X.env (eval e X.env) = eval e X.env := by rfl) : PE X (.Attribute e n pos) (tXk X.K n te) := by
  refine ⟨fun pins s σ H Q I h => ?_⟩
  refine attr_of hb (thn (he.run pins s σ H _ I h) fun u t hh => ?_)
  obtain ⟨x, H1, J, rx, a, C, dd, fs, v, ex, T, hno, hx, hf, l, q⟩ := hh
  subst ex
  obtain rfl : u = Value.ref a := rx
  obtain ⟨ob, fl, e1, ⟨z1, z2⟩, q1⟩ := isx_at J hx
  obtain ⟨mA, hns, rel⟩ := hasf_at J hf
  obtain ⟨od, ho, hl⟩ := lookIn_ns hns
  obtain ⟨u, hu, ru⟩ := RelO.some_of (v := v) (o := mA n) (by rw [← l]; exact rel n)
  have at_a : PySem.W.InstAt t.heap a ob C (some od) := ⟨e1, z1, by unfold PySem.W.notCls; rw [q1] <;> rfl, by rw [z2]; exact ho⟩
  exact HandSPX.exc_get J.kIn at_a T.ga T.gg T.exC (PySem.W.findObj_own T.hdC hno rfl (by rw [hl, hu])) (handed_of ru) ⟨v, H1, J.tok _, ru, q⟩
end
end My

namespace My
open PySem PySem.Spec PyProof.Rows L2
def inS (i : Nat) : Stmt := match topS i with
  | .ClassDef _ _ _ b _ _ _ _ _ _ _ => b.getD 0 (.Pass ⟨0, 0, 0, 0⟩)
  | _ => .Pass ⟨0, 0, 0, 0⟩
def oexB (K : PySem.W.Frag) (C : Addr) : Bool := match K.lookup C with
  | some ⟨.type "type", _, .cls cd, sl⟩ => (match cd.mro with
    | .ref C' :: bm => (match sl.toList with
      | [_, _, _, _, some (.builtin n), _] => (C' == C) && ((n == "ValueError.__new__") && ((!cd.hasDel) && (cd.hasDict && PySem.HandSPX.refsVE bm)))
      | _ => false)
    | _ => false)
  | _ => false
theorem oexB_ok {K : PySem.W.Frag} {C : Addr} (q : oexB K C = true) : ∃ nm qn N bs bm sn sub ab col dd k0 k1 k2 k3 k5, K.lookup C = some (excClassObj nm qn C N bs bm true sn sub ab col dd k0 k1 k2 k3 k5 "ValueError.__new__") ∧ PySem.HandSPX.refsVE bm = true := by
  unfold oexB at q
  split at q
  · rename_i dd cd sl hl
    split at q
    · rename_i C' bm hm
      split at q
      · rename_i k0 k1 k2 k3 n k5 hs
        simp only [Bool.and_eq_true, beq_iff_eq, Bool.not_eq_true'] at q
        obtain ⟨e1, e2, e3, e4, e5⟩ := q
        subst e1 e2
        obtain ⟨nm, bs, mro, ns, qn, hd, sn, sub, ab, col, dl⟩ := cd
        dsimp only at hm e3 e4
        subst hm e3 e4
        have hsl : sl = #[k0, k1, k2, k3, some (.builtin "ValueError.__new__"), k5] := by
          obtain ⟨l⟩ := sl
          simp only at hs
          rw [hs]
        subst hsl
        exact ⟨nm, qn, ns, bs, bm, sn, sub, ab, col, dd, k0, k1, k2, k3, k5, hl, e5⟩
      · cases q
    · cases q
  · cases q
def iniB (K : PySem.W.Frag) (C : Addr) (f : Str) : Bool := oexB K C && (decide (PySem.W.findIn K (.ref C) "__setattr__" = some (some (.builtin "object.__setattr__"))) && (decide (PySem.W.subIn K (.ref C) (.type "BaseException") = some true) && (decide (PySem.W.typeIn K (.ref C) = some (.type "type")) && (PySem.W.keepIn K (.ref C) && decide (PySem.W.findIn K (.ref C) f = some none)))))
theorem iniB_ok {K : PySem.W.Frag} {C : Addr} {f : Str} (h : iniB K C f = true) : OexC K C ∧ PySem.W.findIn K (.ref C) f = some none := by
  unfold iniB at h
  simp only [Bool.and_eq_true, decide_eq_true_eq] at h
  obtain ⟨h1, h2, h3, h4, h5, h6⟩ := h
  exact ⟨⟨oexB_ok h1, h2, h3, h4, h5⟩, h6⟩
def exiB (K : PySem.W.Frag) (D : Addr) : Bool := (PySem.W.clsIn K D).isSome && (decide (PySem.W.findIn K (.ref D) "__getattribute__" = some (some (.builtin "BaseException.__getattribute__"))) && (decide (PySem.W.findIn K (.ref D) "__getattr__" = some none) && (decide (PySem.W.subIn K (.ref D) (.type "BaseException") = some true) &&
  (decide (PySem.W.findIn K (.ref D) "__class__" = some (some (.builtin "object.__class__"))) && (decide (PySem.W.specialIn K (.builtin "object.__class__") "__get__" = some (some (.builtin "getset_descriptor.__get__"))) && (decide (PySem.W.takesIn K (.builtin "object.__class__") = some true) && decide (PySem.W.mroIn K D (.type "object") = some true)))))))
theorem exiB_ok {K : PySem.W.Frag} {D : Addr} (h : exiB K D = true) : ExI K D := by
  unfold exiB at h
  simp only [Bool.and_eq_true, decide_eq_true_eq] at h
  obtain ⟨h1, h2, h3, h4, h5, h6, h7, h8⟩ := h
  exact ⟨h1, h2, h3, h4, h5, h6, h7, h8⟩
def Few (y : V) : Prop := (∃ i : Int, y = .int i ∧ i.natAbs.log2 < 1920) ∨ ∃ x : Str, y = .str x ∧ x.length ≤ 100
def spIni (K : PySem.W.Frag) (C : Addr) (f : Str) : Sp := fun vs H Q _ => ∃ (a : Addr) (y : V), vs = [.ref a, y] ∧ OexC K C ∧ PySem.W.findIn K (.ref C) f = some none ∧ H a = some (exo a C none) ∧ Few y ∧ ∀ dx, H dx = none → dx ≠ a → Q .non (upd (upd H dx (exd dx [(f, y)])) a (exo a C (some dx)))
theorem few_txt {i : Int} (h : i.natAbs.log2 < 1920) : (Str.ofString (toString i)).length ≤ 1921 := int_text_len_1921 h
def HasD (H : Hp) (d : Option Addr) : Prop := ∀ dd, d = some dd → ∃ fs, HasF H dd fs
theorem IsX.same {H H' : Hp} {a C : Addr} {d : Option Addr} (h : IsX H a C d) (e : Same H H') : IsX H' a C d := by
  rcases h with h | h | ⟨q, h⟩
  · exact .inl (e _ _ h)
  · exact .inr (.inl (e _ _ h))
  · exact .inr (.inr ⟨q, e _ _ h⟩)
theorem HasD.same {H H' : Hp} {d : Option Addr} (h : HasD H d) (e : Same H H') : HasD H' d := fun dd q => by
  obtain ⟨fs, f⟩ := h dd q
  rcases f with f | f
  · exact ⟨fs, .inl (e _ _ f)⟩
  · exact ⟨fs, .inr (e _ _ f)⟩
/-- a class with its own __init__ -/
structure Ini (K : PySem.W.Frag) (C fI : Addr) (f : Str) : Prop where
  ox : OexC K C
  no : PySem.W.findIn K (.ref C) f = some none
  ini : PySem.W.findIn K (.ref C) "__init__" = some (some (.ref fI))
  ty : PySem.W.typeIn K (.ref fI) = some (.type "function")
  xf : XfC K C
section
variable {X : Cx} {e : Expr} {es : List Expr} {t : TA} {te : TE} {pos : Pos}
theorem peMono (h : PE X e te) : PE X e (fun σ H R => ∃ S : V → Hp → Prop, te σ H S ∧ ∀ v H1, S v H1 → R v H1) :=
  ⟨fun pins s σ H Q I ⟨S, h1, h2⟩ => thn (h.run pins s σ H S I h1) fun us s1 ⟨v, H1, I1, r, q⟩ => ⟨v, H1, I1, r, h2 _ _ q⟩⟩
def tOexS (C : Addr) (f : Str) (ta : TA) : TE := fun σ H Q => ta σ H fun vs H1 => ∃ y, vs = [y] ∧ Few y ∧ ∀ a dx H2, Same H1 H2 → IsX H2 a C (some dx) → HasF H2 dx [(f, y)] → Q (.ref a) H2
theorem pe_oexS {x : Str} {C fI : Addr} {q1 q3 : Pos} {fd : FuncData} {ps : List Str} {f : Str} (I : Ini X.K C fI f) (FI : FnOk X.prog X.w X.K X.mg X.base CX0 1 fI fd ps (spIni X.K C f)) (room : Room (1 + 1) X.A)
    (bd : Binds X.K fd ps []) (gx : Gl X x) (mx : X.mg x = some (.ref C)) (args : PA X (e :: es) t) (ndb : (x == ("__debug__" : Str)) = false := by decide)
    (h1 : starEach (e :: es) X.env = (false, eval e X.env) :: starEach es X.env := by rfl) (h2 : (backTo q3 (starEach es X.env)).any (·.1) = false := by rfl) : PE X (.Call (.Name x q1) (e :: es) [] q3) (tOexS C f t) :=
  PE.imp (pe_oexV I.ox I.ini I.ty FI room bd pass0 gx mx (paMono args) ndb h1 h2) fun _ _ _ q => ⟨_, q, fun vs H1 ⟨y, ev, few, k⟩ => by
    subst ev
    refine ⟨by show 1 ≤ 1000; decide, fun a na => ⟨a, y, rfl, I.ox, I.no, upd_same, few, fun dx ndx dxa => ⟨rfl, ?_⟩⟩⟩
    have nd : H1 dx = none := by rw [upd_ne dxa] at ndx; exact ndx
    refine k a dx _ (fun b o hb => ?_) (.inl upd_same) (.inl (by rw [upd_ne dxa]; exact upd_same))
    rw [upd_ne (ne_of_none hb na), upd_ne (ne_of_none hb nd), upd_ne (ne_of_none hb na)]
    exact hb⟩
def tExcS (C : Addr) (te : TE) : TE := fun σ H Q => te σ H fun _ H1 => ∀ a H2, Same H1 H2 → IsX H2 a C none → Q (.ref a) H2
theorem pe_excS {C : Addr} {x : Str} {p : Pos} (q : PySem.W.excIn X.K C [.type "ValueError", .type "Exception", .type "BaseException", .type "object"] "ValueError.__new__" = true) (gC : X.mg x = some (.ref C)) (kC : PySem.W.keepIn X.K (.ref C) = true) (hg : Gl X x)
    (he : PE X e te) (hs : starEach [e] X.env = (false, eval e X.env) :: starEach [] X.env := by rfl) (hdb : (x == ("__debug__" : Str)) = false := by decide) : PE X (.Call (.Name x p) [e] [] pos) (tExcS C te) :=
  PE.imp (pe_exc1 PySem.F.excBase_ValueError q gC kC hg (peMono he) hs hdb) fun _ _ _ q => ⟨_, q, fun _ H1 k a na => k a _ (Same.upd na) (.inr (.inr ⟨rfl, upd_same⟩))⟩
end
theorem hasD_none {H : Hp} : HasD H none := fun _ z => nomatch z
theorem hasD_some {H : Hp} {dx : Addr} {fs : List (Str × V)} (h : HasF H dx fs) : HasD H (some dx) := fun dd z => by cases z; exact ⟨fs, h⟩
theorem HasF.same {H H' : Hp} {dx : Addr} {fs : List (Str × V)} (h : HasF H dx fs) (e : Same H H') : HasF H' dx fs := by
  rcases h with h | h
  · exact .inl (e _ _ h)
  · exact .inr (e _ _ h)
/-- all but lists stay -/
def SameX (H H' : Hp) : Prop := ∀ b o, H b = some o → (∀ xs, o ≠ .lst xs) → H' b = some o
theorem SameX.lst {H : Hp} {l : Addr} {xs ys : List V} (h : H l = some (.lst xs)) : SameX H (upd H l (.lst ys)) := fun b o hb n => by
  rw [upd_ne (fun z => by rw [z, h] at hb; cases hb; exact n _ rfl)]; exact hb
theorem IsX.sx {H H' : Hp} {a C : Addr} {d : Option Addr} (h : IsX H a C d) (e : SameX H H') : IsX H' a C d := by
  rcases h with h | h | ⟨q, h⟩
  · exact .inl (e _ _ h fun _ z => nomatch (show HO.ext _ = HO.lst _ from z))
  · exact .inr (.inl (e _ _ h fun _ z => nomatch (show HO.ext _ = HO.lst _ from z)))
  · exact .inr (.inr ⟨q, e _ _ h fun _ z => nomatch (show HO.ext _ = HO.lst _ from z)⟩)
theorem HasF.sx {H H' : Hp} {dx : Addr} {fs : List (Str × V)} (h : HasF H dx fs) (e : SameX H H') : HasF H' dx fs := by
  rcases h with h | h
  · exact .inl (e _ _ h fun _ z => nomatch (show HO.ext _ = HO.lst _ from z))
  · exact .inr (e _ _ h fun _ z => nomatch z)
end My

set_option linter.all false
namespace My
open PySem PySem.Spec PyProof.Rows L2
/-! ### ways along digits, by names -/
/-- those of L to which the row leads by d -/
def byF (row : List (Int × Str)) (d : Int) (L : List Str) : List Str := (row.filter fun q => decide (q.1 = d) && decide (q.2 ∈ L)).map (·.2)
theorem byF_mem {row : List (Int × Str)} {d : Int} {L : List Str} {y : Str} : y ∈ byF row d L ↔ (d, y) ∈ row ∧ y ∈ L := by
  unfold byF
  rw [List.mem_map]
  constructor
  · rintro ⟨⟨e, z⟩, h, rfl⟩
    rw [List.mem_filter, Bool.and_eq_true] at h
    obtain ⟨h1, h2, h3⟩ := h
    have h2 := of_decide_eq_true h2
    have h3 := of_decide_eq_true h3
    dsimp only at h2 h3 ⊢
    rw [← h2]
    exact ⟨h1, h3⟩
  · rintro ⟨h1, h2⟩
    exact ⟨(d, y), List.mem_filter.mpr ⟨h1, by rw [Bool.and_eq_true]; exact ⟨decide_eq_true rfl, decide_eq_true h2⟩⟩, rfl⟩
/-- the names, of ns, that lead into L by d -/
def lead (f : Str → List (Int × Str)) (ns : List Str) (d : Int) (L : List Str) : List Str := ns.filter fun x => !(byF (f x) d L).isEmpty
theorem lead_mem {f : Str → List (Int × Str)} {ns : List Str} {d : Int} {L : List Str} {x : Str} : x ∈ lead f ns d L ↔ x ∈ ns ∧ ∃ y, (d, y) ∈ f x ∧ y ∈ L := by
  unfold lead
  rw [List.mem_filter]
  refine and_congr_right fun _ => ?_
  cases e : byF (f x) d L with
  | nil =>
    constructor
    · intro h; cases h
    · rintro ⟨y, h⟩
      have := byF_mem.mpr h
      rw [e] at this; cases this
  | cons y r =>
    refine ⟨fun _ => ⟨y, byF_mem.mp (by rw [e]; exact List.mem_cons_self)⟩, fun _ => rfl⟩
theorem lead_le {f : Str → List (Int × Str)} {ns : List Str} {d : Int} {L L' : List Str} (h : ∀ x ∈ L, x ∈ L') : ∀ x ∈ lead f ns d L, x ∈ lead f ns d L' := by
  intro x hx
  rw [lead_mem] at hx ⊢
  obtain ⟨h1, y, h2, h3⟩ := hx
  exact ⟨h1, y, h2, h y h3⟩
/-- for each place in ds the names that come into L behind the last; the first place first -/
def kept (f : Str → List (Int × Str)) (ns : List Str) : List Int → List Str → List (List Str)
  | [], L => [L]
  | d :: ds, L => lead f ns d ((kept f ns ds L).headD []) :: kept f ns ds L
def first (f : Str → List (Int × Str)) (ns : List Str) (ds : List Int) (L : List Str) : List Str := (kept f ns ds L).headD []
theorem first_nil {f : Str → List (Int × Str)} {ns : List Str} {L : List Str} : first f ns [] L = L := rfl
theorem first_cons {f : Str → List (Int × Str)} {ns : List Str} {d : Int} {ds : List Int} {L : List Str} : first f ns (d :: ds) L = lead f ns d (first f ns ds L) := rfl
theorem kept_cons {f : Str → List (Int × Str)} {ns : List Str} {d : Int} {ds : List Int} {L : List Str} : kept f ns (d :: ds) L = first f ns (d :: ds) L :: kept f ns ds L := rfl
theorem kept_len {f : Str → List (Int × Str)} {ns : List Str} {ds : List Int} {L : List Str} : (kept f ns ds L).length = ds.length + 1 := by
  induction ds with
  | nil => rfl
  | cons d ds ih => rw [kept_cons, List.length_cons, ih, List.length_cons]
theorem kept_get {f : Str → List (Int × Str)} {ns : List Str} {ds : List Int} {L : List Str} : ∀ {i : Nat}, i ≤ ds.length → (kept f ns ds L)[i]? = some (first f ns (ds.drop i) L) := by
  induction ds with
  | nil => intro i h; have : i = 0 := by simpa using h
           subst this; rfl
  | cons d ds ih =>
    intro i h
    cases i with
    | zero => rfl
    | succ i => rw [kept_cons, List.getElem?_cons_succ, ih (by simpa using h), List.drop_succ_cons]
theorem first_app {f : Str → List (Int × Str)} {ns : List Str} {ds es : List Int} {L : List Str} : first f ns (ds ++ es) L = first f ns ds (first f ns es L) := by
  induction ds with
  | nil => rfl
  | cons d ds ih => rw [List.cons_append, first_cons, ih, ← first_cons]
theorem first_le {f : Str → List (Int × Str)} {ns : List Str} (ds : List Int) {L L' : List Str} (h : ∀ x ∈ L, x ∈ L') : ∀ x ∈ first f ns ds L, x ∈ first f ns ds L' := by
  induction ds with
  | nil => exact h
  | cons d ds ih => exact lead_le ih
/-- a list that is ns' without some -/
def Sub (ns L : List Str) : Prop := ∃ p : Str → Bool, L = ns.filter p
theorem Sub.all (ns : List Str) : Sub ns ns := ⟨fun _ => true, (List.filter_eq_self.mpr fun _ _ => rfl).symm⟩
theorem Sub.lead {f : Str → List (Int × Str)} {ns : List Str} {d : Int} {L : List Str} : Sub ns (lead f ns d L) := ⟨_, rfl⟩
theorem Sub.first {f : Str → List (Int × Str)} {ns : List Str} {ds : List Int} {L : List Str} (h : Sub ns L) : Sub ns (first f ns ds L) := by
  cases ds with
  | nil => exact h
  | cons d ds => exact Sub.lead
theorem filter_len_lt {α : Type} {p q : α → Bool} (l : List α) (h : ∀ x ∈ l, p x = true → q x = true) : (l.filter p).length ≤ (l.filter q).length ∧ ((l.filter p).length = (l.filter q).length → l.filter p = l.filter q) := by
  induction l with
  | nil => exact ⟨Nat.le_refl _, fun _ => rfl⟩
  | cons x l ih =>
    obtain ⟨i1, i2⟩ := ih fun y hy => h y (List.mem_cons_of_mem _ hy)
    have hx := h x List.mem_cons_self
    by_cases c1 : p x = true
    · rw [List.filter_cons_of_pos c1, List.filter_cons_of_pos (hx c1), List.length_cons, List.length_cons]
      exact ⟨by omega, fun e => by rw [i2 (by omega)]⟩
    · rw [List.filter_cons_of_neg c1]
      by_cases c2 : q x = true
      · rw [List.filter_cons_of_pos c2, List.length_cons]
        exact ⟨by omega, fun e => by omega⟩
      · rw [List.filter_cons_of_neg c2]
        exact ⟨i1, i2⟩
theorem Sub.lt {ns L L' : List Str} (h : Sub ns L) (h' : Sub ns L') (le : ∀ x ∈ L, x ∈ L') (ne : L ≠ L') : L.length < L'.length := by
  obtain ⟨p, rfl⟩ := h
  obtain ⟨q, rfl⟩ := h'
  obtain ⟨h1, h2⟩ := filter_len_lt (p := p) (q := q) ns fun x hx hp => (List.mem_filter.mp (le x (List.mem_filter.mpr ⟨hx, hp⟩))).2
  rcases Nat.lt_or_ge (ns.filter p).length (ns.filter q).length with c | c
  · exact c
  · exact absurd (h2 (by omega)) ne
/-- a choice of names by places that goes on without end along stem and ring -/
structure Go (f : Str → List (Int × Str)) (ns : List Str) (S R : List Int) (X : Str → Nat → Prop) : Prop where
  on : ∀ x i, X x i → x ∈ ns ∧ ∃ d, (S ++ R)[i]? = some d ∧ ∃ y, (d, y) ∈ f x ∧ X y (if i + 1 < (S ++ R).length then i + 1 else S.length)
def Has (f : Str → List (Int × Str)) (ns : List Str) (S R : List Int) (x : Str) : Prop := ∃ X, Go f ns S R X ∧ X x 0
theorem Go.first {f : Str → List (Int × Str)} {ns : List Str} {S R : List Int} {X : Str → Nat → Prop} (h : Go f ns S R X) (hR : R ≠ []) {N : List Str} (hN : ∀ x, X x S.length → x ∈ N) :
    ∀ k i x, k + i = (S ++ R).length → 0 < k → X x i → x ∈ first f ns ((S ++ R).drop i) N := by
  intro k
  induction k with
  | zero => intro i x h1 h2; omega
  | succ k ih =>
    intro i x h1 _ hx
    obtain ⟨h2, d, h3, y, h4, h5⟩ := h.on x i hx
    have hi : i < (S ++ R).length := by omega
    have ed : (S ++ R).drop i = d :: (S ++ R).drop (i + 1) := by
      rw [List.drop_eq_getElem_cons hi]
      have := List.getElem?_eq_getElem hi
      rw [h3] at this
      rw [Option.some.inj this]
    rw [ed, first_cons, lead_mem]
    refine ⟨h2, y, h4, ?_⟩
    by_cases c : i + 1 < (S ++ R).length
    · rw [if_pos c] at h5
      exact ih (i + 1) y (by omega) (by omega) h5
    · rw [if_neg c] at h5
      rw [List.drop_eq_nil_of_le (by omega)]
      exact hN y h5
/-- the greatest lot of names that R leads back into -/
structure Last (f : Str → List (Int × Str)) (ns : List Str) (R : List Int) (N : List Str) : Prop where
  fix : first f ns R N = N
  top : ∀ S X, Go f ns S R X → ∀ x, X x S.length → x ∈ N
theorem last_has {f : Str → List (Int × Str)} {ns : List Str} {S R : List Int} {N : List Str} (hR : R ≠ []) (h : Last f ns R N) (hN : ∀ x ∈ N, x ∈ ns) {x : Str} : x ∈ first f ns S N ↔ Has f ns S R x := by
  have r0 : 0 < R.length := by cases R with | nil => exact absurd rfl hR | cons a b => simp
  have lSR : (S ++ R).length = S.length + R.length := List.length_append
  constructor
  · intro hx
    refine ⟨fun y i => i < (S ++ R).length ∧ y ∈ first f ns ((S ++ R).drop i) N, ⟨fun y i hy => ?_⟩, by omega, ?_⟩
    · obtain ⟨hi, hy⟩ := hy
      have ed : (S ++ R).drop i = (S ++ R)[i] :: (S ++ R).drop (i + 1) := List.drop_eq_getElem_cons hi
      rw [ed, first_cons, lead_mem] at hy
      obtain ⟨h1, z, h2, h3⟩ := hy
      refine ⟨h1, _, List.getElem?_eq_getElem hi, z, h2, ?_⟩
      by_cases c : i + 1 < (S ++ R).length
      · rw [if_pos c]; exact ⟨c, h3⟩
      · rw [if_neg c]
        rw [List.drop_eq_nil_of_le (by omega), first_nil] at h3
        refine ⟨by omega, ?_⟩
        rw [List.drop_left' rfl, h.fix]; exact h3
    · rw [List.drop_zero, first_app, h.fix]; exact hx
  · rintro ⟨X, hX, hx⟩
    have top := h.top S X hX
    have := hX.first hR top (S ++ R).length 0 x (by omega) (by omega) hx
    rw [List.drop_zero, first_app, h.fix] at this
    exact this
/-- one turn of the look for it -/
theorem last_turn {f : Str → List (Int × Str)} {ns : List Str} {R : List Int} {N : List Str} (hR : R ≠ []) (h : ∀ S X, Go f ns S R X → ∀ x, X x S.length → x ∈ N) : ∀ S X, Go f ns S R X → ∀ x, X x S.length → x ∈ first f ns R N := by
  intro S X hX x hx
  have r0 : 0 < R.length := by cases R with | nil => exact absurd rfl hR | cons a b => simp
  have lSR : (S ++ R).length = S.length + R.length := List.length_append
  have := hX.first hR (h S X hX) R.length S.length x (by omega) r0 hx
  rw [List.drop_left' rfl] at this
  exact this
end My

set_option linter.all false
namespace My
open PySem PySem.Spec PyProof.Rows L2
/-! ### writings as streams -/
def pos (S R : List Int) : Nat → Nat
  | 0 => 0
  | k + 1 => if pos S R k + 1 < (S ++ R).length then pos S R k + 1 else S.length
def str (S R : List Int) (k : Nat) : Option Int := (S ++ R)[pos S R k]?
theorem pos_lt {S R : List Int} (hR : R ≠ []) : ∀ k, pos S R k < (S ++ R).length
  | 0 => by
    have : 0 < R.length := by cases R with | nil => exact absurd rfl hR | cons a b => simp
    rw [List.length_append]; show 0 < _; omega
  | k + 1 => by
    have : 0 < R.length := by cases R with | nil => exact absurd rfl hR | cons a b => simp
    have ih := pos_lt hR (S := S) k
    show (if pos S R k + 1 < (S ++ R).length then pos S R k + 1 else S.length) < _
    split
    · assumption
    · rw [List.length_append]; omega
def HasS (f : Str → List (Int × Str)) (ns : List Str) (δ : Nat → Option Int) (x : Str) : Prop := ∃ X : Str → Nat → Prop, X x 0 ∧ ∀ y k, X y k → y ∈ ns ∧ ∃ d, δ k = some d ∧ ∃ z, (d, z) ∈ f y ∧ X z (k + 1)
theorem has_s {f : Str → List (Int × Str)} {ns : List Str} {S R : List Int} {x : Str} : Has f ns S R x ↔ HasS f ns (str S R) x := by
  constructor
  · rintro ⟨X, hX, hx⟩
    refine ⟨fun y k => X y (pos S R k), hx, fun y k h => ?_⟩
    exact hX.on y _ h
  · rintro ⟨X, hx, h⟩
    refine ⟨fun y i => ∃ k, pos S R k = i ∧ X y k, ⟨fun y i => ?_⟩, 0, rfl, hx⟩
    rintro ⟨k, rfl, hk⟩
    obtain ⟨h1, d, h2, z, h3, h4⟩ := h y k hk
    exact ⟨h1, d, h2, z, h3, k + 1, rfl, h4⟩
/-- what is left behind i digits of L, times d -/
def tv (b d n : Int) (L : List Int) (i : Nat) : Int := n * b ^ i - d * nb b (L.take i)
theorem tv_zero {b d n : Int} {L : List Int} : tv b d n L 0 = n := by simp [tv, nb]
theorem tv_succ {b d n : Int} {L : List Int} {i : Nat} {x : Int} (h : L[i]? = some x) : tv b d n L (i + 1) = b * tv b d n L i - d * x := by
  unfold tv
  rw [nb_take b L h, Int.pow_succ, Int.mul_add, Int.mul_sub, ← Int.mul_assoc n, ← Int.mul_assoc d, Int.mul_comm (n * b ^ i) b, Int.mul_comm (d * nb b (L.take i)) b]
  omega
theorem tv_ring {b d n : Int} {S R : List Int} (h : n * bt b S R = d * tp b S R) : tv b d n (S ++ R) (S ++ R).length = tv b d n (S ++ R) S.length ∧ tv b d n (S ++ R) S.length * (b ^ R.length - 1) = d * nb b R := by
  have e1 : tv b d n (S ++ R) S.length = n * b ^ S.length - d * nb b S := by unfold tv; rw [List.take_left' rfl]
  have e2 : tv b d n (S ++ R) (S ++ R).length = n * b ^ S.length * b ^ R.length - d * (nb b S * b ^ R.length + nb b R) := by
    unfold tv; rw [List.take_length, nb_app, List.length_append, Int.pow_add, ← Int.mul_assoc]
  rw [e2, e1]
  unfold bt tp at h
  generalize b ^ S.length = p at h ⊢
  generalize b ^ R.length = q at h ⊢
  generalize nb b S = s at h ⊢
  generalize nb b R = r at h ⊢
  have h1 : n * p * q - n * p = d * s * q - d * s + d * r := by
    have a1 : n * (p * (q - 1)) = n * p * q - n * p := by rw [← Int.mul_assoc, Int.mul_sub, Int.mul_one]
    have a2 : d * (s * (q - 1) + r) = d * s * q - d * s + d * r := by rw [Int.mul_add, ← Int.mul_assoc, Int.mul_sub, Int.mul_one]
    rw [← a1, ← a2]; exact h
  have h2 : d * (s * q + r) = d * s * q + d * r := by rw [Int.mul_add, ← Int.mul_assoc]
  have h3 : (n * p - d * s) * (q - 1) = n * p * q - d * s * q - (n * p - d * s) := by rw [Int.mul_sub, Int.mul_one, Int.sub_mul]
  rw [h2, h3]
  constructor <;> omega
theorem tv_rng {b d n : Int} {S R : List Int} (b0 : 2 ≤ b) (d0 : 0 < d) (h : n * bt b S R = d * tp b S R) (hR : R ≠ []) (dS : Digs b S) (dR : Digs b R) :
    ∀ i, i ≤ (S ++ R).length → 0 ≤ tv b d n (S ++ R) i ∧ tv b d n (S ++ R) i ≤ d := by
  obtain ⟨h1, h2⟩ := tv_ring h
  have r1 := nb_rng (by omega : 0 < b) R dR
  have q2 := pow_ge_2 b0 (k := R.length) (by cases R with | nil => exact absurd rfl hR | cons a b => simp)
  have hs : 0 ≤ tv b d n (S ++ R) S.length ∧ tv b d n (S ++ R) S.length ≤ d := by
    generalize tv b d n (S ++ R) S.length = t at h2
    generalize nb b R = r at h2 r1
    generalize b ^ R.length = q at h2 r1 q2
    have e1 : 0 ≤ d * r := Int.mul_nonneg (by omega) r1.1
    have e2 : d * r ≤ d * (q - 1) := Int.mul_le_mul_of_nonneg_left (by omega) (by omega)
    constructor
    · rcases Int.lt_or_le t 0 with z | z
      · have := Int.mul_neg_of_neg_of_pos z (show 0 < q - 1 by omega)
        omega
      · exact z
    · rcases Int.lt_or_le d t with z | z
      · have : (d + 1) * (q - 1) ≤ t * (q - 1) := Int.mul_le_mul_of_nonneg_right (by omega) (by omega)
        rw [Int.add_mul, Int.one_mul] at this
        omega
      · exact z
  have dall : Digs b (S ++ R) := fun x hx => by
    rcases List.mem_append.mp hx with q | q
    · exact dS x q
    · exact dR x q
  have key : ∀ k i, i + k = (S ++ R).length → 0 ≤ tv b d n (S ++ R) i ∧ tv b d n (S ++ R) i ≤ d := by
    intro k
    induction k with
    | zero => intro i e; rw [show i = (S ++ R).length by omega, h1]; exact hs
    | succ k ih =>
      intro i e
      have hi : i < (S ++ R).length := by omega
      have hx := List.getElem?_eq_getElem hi
      have ts := tv_succ (b := b) (d := d) (n := n) hx
      have x1 := dall _ (List.getElem_mem hi)
      have ih := ih (i + 1) (by omega)
      rw [ts] at ih
      generalize (S ++ R)[i] = x at ih x1
      generalize tv b d n (S ++ R) i = t at ih
      have e1 : 0 ≤ d * x := Int.mul_nonneg (by omega) x1.1
      have e2 : d * x ≤ d * (b - 1) := Int.mul_le_mul_of_nonneg_left (by omega) (by omega)
      rw [Int.mul_sub, Int.mul_one] at e2
      constructor
      · rcases Int.lt_or_le t 0 with z | z
        · have := Int.mul_neg_of_pos_of_neg (show 0 < b by omega) z
          omega
        · exact z
      · rcases Int.lt_or_le d t with z | z
        · have : b * (d + 1) ≤ b * t := Int.mul_le_mul_of_nonneg_left (by omega) (by omega)
          rw [Int.mul_add, Int.mul_one, Int.mul_comm b d] at this
          omega
        · exact z
  intro i hi
  exact key ((S ++ R).length - i) i (by omega)
/-- a stream of digits with what is left behind each -/
structure Rests (b d n : Int) (ε T : Nat → Int) : Prop where
  zero : T 0 = n
  succ : ∀ k, T (k + 1) = b * T k - d * ε k
  rng : ∀ k, 0 ≤ T k ∧ T k ≤ d
  dig : ∀ k, 0 ≤ ε k ∧ ε k < b
theorem rests_of {b d n : Int} {S R : List Int} (b0 : 2 ≤ b) (d0 : 0 < d) (h : n * bt b S R = d * tp b S R) (hR : R ≠ []) (dS : Digs b S) (dR : Digs b R) :
    ∃ ε T, Rests b d n ε T ∧ ∀ k, str S R k = some (ε k) := by
  have hp := pos_lt (S := S) hR
  refine ⟨fun k => (S ++ R)[pos S R k]'(hp k), fun k => tv b d n (S ++ R) (pos S R k), ⟨tv_zero, fun k => ?_, fun k => tv_rng b0 d0 h hR dS dR _ (Nat.le_of_lt (hp k)), fun k => ?_⟩, fun k => List.getElem?_eq_getElem (hp k)⟩
  · have ts := tv_succ (b := b) (d := d) (n := n) (List.getElem?_eq_getElem (hp k))
    show tv b d n (S ++ R) (if pos S R k + 1 < (S ++ R).length then pos S R k + 1 else S.length) = _
    split
    · exact ts
    · rename_i c
      have e : pos S R k + 1 = (S ++ R).length := by have := hp k; omega
      rw [← ts, e, (tv_ring h).1]
  · rcases List.mem_append.mp (List.getElem_mem (hp k)) with q | q
    · exact dS _ q
    · exact dR _ q
theorem mul_eq_cases {d x y : Int} (d0 : 0 < d) (h : d * x = y) (lo : -d < y) (hi : y ≤ d) : (x = 0 ∧ y = 0) ∨ (x = 1 ∧ y = d) := by
  rcases Int.lt_or_le x 0 with q | q
  · have : d * x ≤ d * (-1) := Int.mul_le_mul_of_nonneg_left (by omega) (by omega)
    omega
  · rcases Int.lt_or_le 1 x with q2 | q2
    · have : d * 2 ≤ d * x := Int.mul_le_mul_of_nonneg_left (by omega) (by omega)
      omega
    · have : x = 0 ∨ x = 1 := by omega
      rcases this with rfl | rfl
      · left; omega
      · right; omega
theorem Rests.full {b d n : Int} {ε T : Nat → Int} (h : Rests b d n ε T) (b0 : 2 ≤ b) (d0 : 0 < d) {k : Nat} (hk : T k = d) : ∀ i, T (k + i) = d ∧ ε (k + i) = b - 1 := by
  have one : ∀ k, T k = d → T (k + 1) = d ∧ ε k = b - 1 := by
    intro k hk
    have s := h.succ k
    have r := h.rng (k + 1)
    have g := h.dig k
    rw [hk] at s
    have e1 : d * (b - 1 - ε k) = T (k + 1) - d := by rw [s, Int.mul_sub, Int.mul_sub, Int.mul_one, Int.mul_comm b d]; omega
    rcases Int.lt_or_le 0 (b - 1 - ε k) with q | q
    · have : d * 1 ≤ d * (b - 1 - ε k) := Int.mul_le_mul_of_nonneg_left (by omega) (by omega)
      have e2 : T (k + 1) = d + d * (b - 1 - ε k) := by omega
      have e3 : T (k + 1) = d := by omega
      omega
    · have e2 : ε k = b - 1 := by omega
      refine ⟨?_, e2⟩
      rw [e2] at e1
      simp at e1
      omega
  intro i
  induction i with
  | zero => exact ⟨hk, (one k hk).2⟩
  | succ i ih => exact ⟨(one _ ih.1).1, (one _ (one _ ih.1).1).2⟩
theorem rs_dg (b d n : Int) (k : Nat) : rs b d n k * b = d * dg b d n k + rs b d n (k + 1) := (Int.mul_ediv_add_emod _ _).symm
theorem str_dv {b d n : Int} {m k0 : Nat} (h : Dv b d n m k0) : ∀ k, str ((dl b d n m).take k0) ((dl b d n m).drop k0) k = some (dg b d n k) := by
  have lm : ((dl b d n m).take k0 ++ (dl b d n m).drop k0) = dl b d n m := List.take_append_drop _ _
  have lt := h.lt
  have lS : ((dl b d n m).take k0).length = k0 := by rw [List.length_take, dl_len]; omega
  have hR : (dl b d n m).drop k0 ≠ [] := fun z => by have := congrArg List.length z; rw [List.length_drop, dl_len] at this; simp at this; omega
  have key : ∀ k, pos ((dl b d n m).take k0) ((dl b d n m).drop k0) k < m ∧ rs b d n (pos ((dl b d n m).take k0) ((dl b d n m).drop k0) k) = rs b d n k := by
    intro k
    induction k with
    | zero => exact ⟨by show 0 < m; omega, rfl⟩
    | succ k ih =>
      obtain ⟨i1, i2⟩ := ih
      have nx : rs b d n (pos ((dl b d n m).take k0) ((dl b d n m).drop k0) k + 1) = rs b d n (k + 1) := by show _ * b % d = _ * b % d; rw [i2]
      show (if _ + 1 < _ then _ + 1 else _) < m ∧ rs b d n (if _ + 1 < _ then _ + 1 else _) = _
      rw [lm, dl_len, lS]
      split
      · exact ⟨by assumption, nx⟩
      · rename_i c
        have e : pos ((dl b d n m).take k0) ((dl b d n m).drop k0) k + 1 = m := by omega
        rw [e, h.back] at nx
        exact ⟨by omega, nx⟩
  intro k
  obtain ⟨h1, h2⟩ := key k
  unfold str
  rw [lm]
  generalize pos ((dl b d n m).take k0) ((dl b d n m).drop k0) k = q at h1 h2 ⊢
  unfold dl
  rw [List.getElem?_map, List.getElem?_range h1]
  show some (rs b d n q * b / d) = some (rs b d n k * b / d)
  rw [h2]
theorem pos_one {S : List Int} {z : Int} : ∀ k, pos S [z] k = min k S.length
  | 0 => by show 0 = _; omega
  | k + 1 => by
    show (if pos S [z] k + 1 < (S ++ [z]).length then pos S [z] k + 1 else S.length) = _
    rw [pos_one k, List.length_append, List.length_singleton]
    split <;> omega
theorem str_one {S : List Int} {z : Int} (k : Nat) : str S [z] k = if k < S.length then S[k]? else some z := by
  unfold str
  rw [pos_one]
  split
  · rename_i c
    rw [Nat.min_eq_left (by omega), List.getElem?_append_left c]
  · rename_i c
    rw [Nat.min_eq_right (by omega), List.getElem?_append_right (Nat.le_refl _), Nat.sub_self]; rfl
/-- a stream that tells a fraction is that of one of its writings -/
theorem stream_in {b d n : Int} {ε T : Nat → Int} {W : List (List Int × List Int)} (h : Rests b d n ε T) (b0 : 2 ≤ b) (d0 : 0 < d) (n0 : 0 ≤ n) (nd : n ≤ d) (hW : WR b n d W) :
    ∃ p ∈ W, ∀ k, str p.1 p.2 k = some (ε k) := by
  rcases hW with ⟨e, rfl⟩ | ⟨e, m, k0, dv, rfl⟩
  · refine ⟨_, List.mem_cons_self, fun k => ?_⟩
    have := h.full b0 d0 (k := 0) (by rw [h.zero]; exact e) k
    rw [Nat.zero_add] at this
    rw [this.2, str_one]; rfl
  · have nd' : n < d := by omega
    by_cases c : ∀ k, T k = rs b d n k
    · refine ⟨((dl b d n m).take k0, (dl b d n m).drop k0), by unfold wOf; split <;> simp, fun k => ?_⟩
      rw [str_dv dv]
      have s := h.succ k
      rw [c k, c (k + 1)] at s
      have r := rs_dg b d n k
      have : d * dg b d n k = d * ε k := by rw [Int.mul_comm b] at s; omega
      rw [Int.eq_of_mul_eq_mul_left (by omega) this]
    · obtain ⟨j, hj, hle⟩ : ∃ j, T (j + 1) ≠ rs b d n (j + 1) ∧ ∀ i, i ≤ j → T i = rs b d n i := by
        refine Classical.byContradiction fun no => c fun k => ?_
        have : ∀ k i, i ≤ k → T i = rs b d n i := by
          intro k
          induction k with
          | zero => intro i hi; rw [show i = 0 by omega]; exact h.zero
          | succ k ih =>
            intro i hi
            by_cases q : i = k + 1
            · subst q
              exact Classical.byContradiction fun z => no ⟨k, z, ih⟩
            · exact ih i (by omega)
        exact this k k (Nat.le_refl _)
      have rr := rs_rng (b := b) d0 n0 nd'
      have s := h.succ j
      rw [hle j (Nat.le_refl _)] at s
      have r := rs_dg b d n j
      have tr := h.rng (j + 1)
      have e1 : d * (dg b d n j - ε j) = T (j + 1) - rs b d n (j + 1) := by rw [Int.mul_sub, s, Int.mul_comm b]; omega
      have := rr (j + 1)
      rcases mul_eq_cases d0 e1 (by omega) (by omega) with ⟨_, z⟩ | ⟨e2, e3⟩
      · exact absurd (by omega) hj
      have tj : T (j + 1) = d := by omega
      have rj : rs b d n (j + 1) = 0 := by omega
      have ej : ε j = dg b d n j - 1 := by omega
      have full := h.full b0 d0 tj
      have dj : 1 ≤ dg b d n j := by have := h.dig j; omega
      have rj0 : rs b d n j ≠ 0 := fun z => by
        rw [z, rj] at r
        have : d * 1 ≤ d * dg b d n j := Int.mul_le_mul_of_nonneg_left dj (by omega)
        omega
      have stay : ∀ i k, rs b d n i = 0 → rs b d n (i + k) = 0 := by
        intro i k hz
        induction k with
        | zero => exact hz
        | succ k ih => show rs b d n (i + k) * b % d = 0; rw [ih]; simp
      have nz : ∀ i, i ≤ j → rs b d n i ≠ 0 := fun i hi z => rj0 (by have := stay i (j - i) z; rwa [show i + (j - i) = j by omega] at this)
      have dv2 : Dv b d n (j + 2) (j + 1) := by
        refine ⟨by omega, by rw [rj]; exact stay (j + 1) 1 rj, fun x y hxy hy z => ?_⟩
        have hx : x ≤ j := by omega
        have e4 := rs_add z (j + 1 - y)
        rw [show y + (j + 1 - y) = j + 1 by omega, rj] at e4
        exact nz (x + (j + 1 - y)) (by omega) e4
      obtain ⟨rfl, rfl⟩ := dv.uniq dv2
      have eS : (dl b d n (j + 2)).take (j + 1) = dl b d n j ++ [dg b d n j] := by rw [show j + 2 = (j + 1) + 1 by omega, dl_take, dl_succ]
      have eR : (dl b d n (j + 2)).drop (j + 1) = [0] := by
        rw [show j + 2 = (j + 1) + 1 by omega, dl_succ, List.drop_left' (dl_len b d n (j + 1))]
        show [rs b d n (j + 1) * b / d] = [0]
        rw [rj]; simp
      refine ⟨(less (dl b d n j ++ [dg b d n j]), [b - 1]), ?_, fun k => ?_⟩
      · rw [eS, eR]
        unfold wOf
        rw [if_pos ⟨rfl, by simp⟩]
        simp
      · rw [less_snoc, str_one, List.length_append, dl_len, List.length_singleton]
        rcases Nat.lt_trichotomy k j with q | q | q
        · rw [if_pos (by omega), List.getElem?_append_left (by rw [dl_len]; exact q)]
          unfold dl
          rw [List.getElem?_map, List.getElem?_range q]
          have s := h.succ k
          rw [hle k (by omega), hle (k + 1) (by omega)] at s
          have r := rs_dg b d n k
          have : d * dg b d n k = d * ε k := by rw [Int.mul_comm b] at s; omega
          show some (dg b d n k) = _
          rw [Int.eq_of_mul_eq_mul_left (by omega) this]
        · subst q
          rw [if_pos (by omega), List.getElem?_append_right (by rw [dl_len]; exact Nat.le_refl _), dl_len, Nat.sub_self, ej]; rfl
        · rw [if_neg (by omega)]
          have := full (k - (j + 1))
          rw [show j + 1 + (k - (j + 1)) = k by omega] at this
          rw [this.2]
/-- a way's digits are one of the writings of its fraction -/
theorem way_in {f : Str → List (Int × Str)} {ns : List Str} {x : Str} {b d n : Int} {S R : List Int} {W : List (List Int × List Int)} (b0 : 2 ≤ b) (d0 : 0 < d) (n0 : 0 ≤ n) (nd : n ≤ d) (h : n * bt b S R = d * tp b S R) (hR : R ≠ []) (dS : Digs b S) (dR : Digs b R)
    (hW : WR b n d W) (hx : Has f ns S R x) : ∃ p ∈ W, Has f ns p.1 p.2 x := by
  obtain ⟨ε, T, hr, hs⟩ := rests_of b0 d0 h hR dS dR
  obtain ⟨p, hp, h2⟩ := stream_in hr b0 d0 n0 nd hW
  refine ⟨p, hp, has_s.mpr ?_⟩
  have e : str p.1 p.2 = str S R := funext fun k => by rw [h2 k, hs k]
  rw [e]
  exact has_s.mp hx
end My

set_option linter.all false
namespace My
open PySem PySem.Spec PyProof.Rows L2
def tTruK (K : PySem.W.Frag) (ta : TE) : TT := fun σ H Q => ta σ H fun x H2 => ∃ k, TruV K x H2 k ∧ Q k H2
/-! ### locked, or already so -/
theorem ps_orLock {X : Cx} {st : Stmt} {t : TS} (h : PS X st t) : PS X st (fun D σ H => t D σ H ∨ tLock t D σ H) := ⟨fun pins s σ H D I q => q.elim (h.run pins s σ H D I) ((ps_lock h).run pins s σ H D I)⟩
theorem orLock_by {t : TS} {D : Ends} {σ : L2.St} {H : Hp} {rr : Addr} {u : HO} (hr : Rd H rr u) (mu : Mut (some u))
    (h : ∀ (D1 : Ends) (od : Obj) (H1 : Hp), H1 rr = some (.frz od u) → (∀ a, a ≠ rr → H1 a = H a) →
      (∀ σ' H', H' rr = some (.frz od u) → (∀ H'', (∀ a, a ≠ rr → H'' a = H' a) → H'' rr = H rr → D.nx σ' H'') → D1.nx σ' H') →
      (∀ v H', H' rr = some (.frz od u) → (∀ H'', (∀ a, a ≠ rr → H'' a = H' a) → H'' rr = H rr → D.rt v H'') → D1.rt v H') → t D1 σ H1) : t D σ H ∨ tLock t D σ H := by
  rcases hr with hr | ⟨od, hr⟩
  · exact .inr ⟨rr, u, hr, mu, fun od => h _ od _ upd_same (fun a n => upd_ne n) (fun σ' H' e k => ⟨e, k _ (fun a n => upd_ne n) (by rw [upd_same, hr])⟩) (fun v H' e k => ⟨e, k _ (fun a n => upd_ne n) (by rw [upd_same, hr])⟩)⟩
  · exact .inl (h D od H hr (fun _ _ => rfl) (fun σ' H' e k => k H' (fun _ _ => rfl) (by rw [e, hr])) (fun v H' e k => k H' (fun _ _ => rfl) (by rw [e, hr])))
theorem Same.unlock {H H1 H' H'' : Hp} {rr : Addr} (a1 : ∀ a, a ≠ rr → H1 a = H a) (s : Same H1 H') (a2 : ∀ a, a ≠ rr → H'' a = H' a) (e : H'' rr = H rr) : Same H H'' := fun a o h => by
  by_cases z : a = rr
  · subst z; rw [e]; exact h
  · rw [a2 a z]; exact s a o (by rw [a1 a z]; exact h)
def del (G : Hp) (rr : Addr) : Hp := fun a => if a = rr then none else G a
theorem del_at {G : Hp} {rr : Addr} : del G rr rr = none := if_pos rfl
theorem del_ne {G : Hp} {rr a : Addr} (h : a ≠ rr) : del G rr a = G a := if_neg h
theorem del_same {G : Hp} {rr : Addr} : Same (del G rr) G := fun a o h => by
  by_cases z : a = rr
  · subst z; rw [del_at] at h; cases h
  · rw [del_ne z] at h; exact h
mutual
theorem Dq.del {K : PySem.W.Frag} {G : Hp} {rr : Addr} {kvs : List (Key × V)} (hr : G rr = some (.dK kvs)) : ∀ {v : V} {d : PyData}, d.hasDict = false → Dq K G v d → Dq K (del G rr) v d
  | _, _, _, .non => .non
  | _, _, _, .bl b => .bl b
  | _, _, _, .int i => .int i
  | _, _, _, .str x => .str x
  | _, _, h, .lst e r => .lst ((del_ne (fun z => by rw [z, hr] at e; cases e)).trans e) (DqAll.del hr h r)
  | _, _, h, .tup e r => .tup ((del_ne (fun z => by rw [z, hr] at e; cases e)).trans e) (DqAll.del hr h r)
  | _, _, h, .dct _ _ _ => nomatch h
theorem DqAll.del {K : PySem.W.Frag} {G : Hp} {rr : Addr} {kvs : List (Key × V)} (hr : G rr = some (.dK kvs)) : ∀ {vs : List V} {ds : List PyData}, PyData.hasDictAll ds = false → DqAll K G vs ds → DqAll K (del G rr) vs ds
  | _, _, _, .nil => .nil
  | _, _, h, .cons a r => .cons (Dq.del hr (Bool.or_eq_false_iff.mp h).1 a) (DqAll.del hr (Bool.or_eq_false_iff.mp h).2 r)
end
theorem hasDict_row (row : List (Int × Str)) : (rowD row).hasDict = false := by
  show PyData.hasDictAll (row.map fun q => PyData.tuple [.int q.1, .str q.2]) = false
  induction row with
  | nil => rfl
  | cons q r ih => rw [List.map_cons]; show (_ || _) = false; rw [ih]; rfl
theorem hasDict_rows (rws : List (List (Int × Str))) : PyData.hasDictAll (rws.map rowD) = false := by
  induction rws with
  | nil => rfl
  | cons q r ih => rw [List.map_cons]; show (_ || _) = false; rw [ih, hasDict_row]; rfl
/-- the rows of a book, to be read; what stands still reaches them, not the dict -/
structure RowsR (K : PySem.W.Frag) (G H : Hp) (rr : Addr) (ns : List Str) (rws : List (List (Int × Str))) (kvs : List (Key × V)) : Prop where
  rd : Rd H rr (.dK kvs)
  keys : kvs.map (·.1) = ns.map Sum.inr
  dq : DqAll K G (kvs.map (·.2)) (rws.map rowD)
  gr : G rr = none
  same : Same G H
theorem rd_same {H H' : Hp} {a : Addr} {u : HO} (h : Rd H a u) (e : Same H H') : Rd H' a u := by
  rcases h with h | ⟨o, h⟩
  · exact .inl (e _ _ h)
  · exact .inr ⟨o, e _ _ h⟩
theorem RowsR.more {K : PySem.W.Frag} {G H H' : Hp} {rr : Addr} {ns : List Str} {rws : List (List (Int × Str))} {kvs : List (Key × V)} (h : RowsR K G H rr ns rws kvs) (e : Same H H') : RowsR K G H' rr ns rws kvs := ⟨rd_same h.rd e, h.keys, h.dq, h.gr, h.same.trans e⟩
theorem rd_there {H : Hp} {a : Addr} {u : HO} (h : Rd H a u) : H a ≠ none := by
  rcases h with h | ⟨o, h⟩ <;> (rw [h]; exact fun z => nomatch z)
theorem RowsR.nw {K : PySem.W.Frag} {G H G' H' : Hp} {rr : Addr} {ns : List Str} {rws : List (List (Int × Str))} {kvs : List (Key × V)} (h : RowsR K G H rr ns rws kvs) (m : Nw G H G' H') : RowsR K G' H' rr ns rws kvs := ⟨rd_same h.rd m.hh, h.keys, h.dq.mono m.gg, (m.old rr (rd_there h.rd)).trans h.gr, m.gh⟩
theorem RowsR.lock {K : PySem.W.Frag} {G H H1 : Hp} {rr : Addr} {ns : List Str} {rws : List (List (Int × Str))} {kvs : List (Key × V)} {od : Obj} (h : RowsR K G H rr ns rws kvs) (e : H1 rr = some (.frz od (.dK kvs))) (a1 : ∀ a, a ≠ rr → H1 a = H a) : RowsR K G H1 rr ns rws kvs :=
  ⟨.inr ⟨od, e⟩, h.keys, h.dq, h.gr, fun a o q => by rw [a1 a (ne_of_none q h.gr)]; exact h.same a o q⟩
theorem RowsR.of {K : PySem.W.Frag} {G H : Hp} {rr : Addr} {ns : List Str} {rws : List (List (Int × Str))} (h : RowsAt K G rr ns rws) (e : Same G H) : ∃ kvs, RowsR K (del G rr) H rr ns rws kvs := by
  obtain ⟨kvs, h1, h2, h3⟩ := h.ex
  exact ⟨kvs, .inl (e _ _ h1), h2, DqAll.del h1 (hasDict_rows rws) h3, del_at, del_same.trans e⟩
theorem RowsR.row {K : PySem.W.Frag} {G H : Hp} {rr : Addr} {ns : List Str} {rws : List (List (Int × Str))} {kvs : List (Key × V)} (h : RowsR K G H rr ns rws kvs) {x : Str} (hx : x ∈ ns) : ∃ v, DGet H rr (.str x) (some v) ∧ Dq K G v (rowD (rowAt ns rws x)) := by
  obtain ⟨v, h1, h2⟩ := get_row h.keys h.dq hx
  exact ⟨v, .inl ⟨kvs, Sum.inr x, h.rd, rfl, h1.symm⟩, h2⟩
theorem RowsR.key {K : PySem.W.Frag} {G H : Hp} {rr : Addr} {ns : List Str} {rws : List (List (Int × Str))} {kvs : List (Key × V)} (h : RowsR K G H rr ns rws kvs) {i : Nat} {k : Key} {v : V} (e : kvs[i]? = some (k, v)) : ∃ x, ns[i]? = some x ∧ kV k = .str x := by
  have h1 : (kvs.map (·.1))[i]? = some k := by rw [List.getElem?_map, e]; rfl
  rw [h.keys, List.getElem?_map] at h1
  obtain ⟨x, h2, rfl⟩ := Option.map_eq_some_iff.mp h1
  exact ⟨x, h2, rfl⟩
theorem RowsR.len {K : PySem.W.Frag} {G H : Hp} {rr : Addr} {ns : List Str} {rws : List (List (Int × Str))} {kvs : List (Key × V)} (h : RowsR K G H rr ns rws kvs) : kvs.length = ns.length := by
  have := congrArg List.length h.keys
  rwa [List.length_map, List.length_map] at this
theorem RowsR.list {K : PySem.W.Frag} {G H : Hp} {rr : Addr} {ns : List Str} {rws : List (List (Int × Str))} {kvs : List (Key × V)} (h : RowsR K G H rr ns rws kvs) : (kvs.map fun kv => kV kv.1) = ns.map V.str := by
  have := congrArg (List.map kV) h.keys
  rw [List.map_map, List.map_map] at this
  exact this
def spBy (K : PySem.W.Frag) : Sp := fun vs H Q _ => ∃ (v : V) (d : Int) (ln : Addr) (row : List (Int × Str)) (L : List Str) (G : Hp), vs = [v, .int d, .ref ln] ∧ Same G H ∧ Dq K G v (rowD row) ∧ row.length ≤ 12 ∧ H ln = some (.lst (L.map V.str)) ∧
  ∀ (l : Addr) (H' : Hp), Same H H' → H l = none → H' l = some (.lst ((byF row d L).map V.str)) → Q (.ref l) H'
section
variable {P : Program} {w : World} {K : PySem.W.Frag} {mg : Str → Option Value} {base : Heap}
/-- lists of names, at their addresses -/
def Kz (H : Hp) (zs : List (Addr × List Str)) : Prop := ∀ z ∈ zs, H z.1 = some (.lst (z.2.map V.str))
def spLeading (K : PySem.W.Frag) : Sp := fun vs H Q _ => ∃ (rr da na : Addr) (b : Int) (ns : List Str) (rws : List (List (Int × Str))) (kvs : List (Key × V)) (ds : List Int) (L : List Str) (G : Hp), vs = [.ref rr, .ref da, .ref na] ∧ RowsR K G H rr ns rws kvs ∧ BookOk b ns rws ∧
  G da = some (.tup (ds.map V.int)) ∧ ds.length ≤ 5000 ∧ H na = some (.lst (L.map V.str)) ∧
  ∀ (l : Addr) (zs : List (Addr × List Str)) (H' : Hp), Same H H' → H l = none → H' l = some (.lst (zs.map fun z => .ref z.1)) → zs.map (·.2) = kept (rowAt ns rws) ns ds L → Kz H' zs → Q (.ref l) H'
structure TxW (mg : Str → Option Value) : Prop where
  reversed : mg "reversed" = none
  list : mg "list" = none
def spLasting (K : PySem.W.Frag) : Sp := fun vs H Q _ => ∃ (rr da : Addr) (b : Int) (ns : List Str) (rws : List (List (Int × Str))) (kvs : List (Key × V)) (ds : List Int) (G : Hp), vs = [.ref rr, .ref da] ∧ RowsR K G H rr ns rws kvs ∧ BookOk b ns rws ∧
  G da = some (.tup (ds.map V.int)) ∧ ds.length ≤ 5000 ∧ ds ≠ [] ∧
  ∀ (l : Addr) (zs : List (Addr × List Str)) (N : List Str) (H' : Hp), Same H H' → H l = none → H' l = some (.lst (zs.map fun z => .ref z.1)) → zs.map (·.2) = kept (rowAt ns rws) ns ds N → Kz H' zs → Last (rowAt ns rws) ns ds N → Sub ns N → Q (.ref l) H'
theorem names_shaped {b : Int} {ns : List Str} {rws : List (List (Int × Str))} (B : BookOk b ns rws) {N : List Str} (h : Sub ns N) : SeqAt.shaped (.list (N.map PyData.str)) = true := by
  obtain ⟨p, rfl⟩ := h
  exact shaped_sl _ fun x hx => (B.ok x (List.mem_filter.mp hx).1).lets
end
end My

set_option linter.all false
namespace My
open PySem PySem.Spec PyProof.Rows L2
/-! ### zip of a tuple and a list -/
/-- the tuple at a, the list at b, item by item in new pairs -/
def Itm (K : PySem.W.Frag) (a b : Addr) : It where
  go := fun i Hp0 => ∃ (vs ws : List V) (v w : V), SqT K Hp0 a vs ∧ SqL K Hp0 b ws ∧ vs[i]? = some v ∧ ws[i]? = some w
  yld := fun i Hp0 r Hp1 => ∃ q v w, r = .ref q ∧ Hp0 q = none ∧ Hp1 = upd Hp0 q (.tup [v, w]) ∧ (∀ vs, SqT K Hp0 a vs → vs[i]? = some v) ∧ ∀ ws, SqL K Hp0 b ws → ws[i]? = some w
  stop := fun i Hp0 => ∃ vs ws : List V, SqT K Hp0 a vs ∧ SqL K Hp0 b ws ∧ vs.length = ws.length ∧ i = vs.length
theorem notin2 {x y z : Addr} (h1 : z ≠ x) (h2 : z ≠ y) : z ∉ [x, y] := fun h => by
  rcases List.mem_cons.mp h with e | h
  · exact h1 e
  · exact h2 (List.mem_singleton.mp h)
theorem nat_far {n a k : Nat} (h : a < n) : n + k ≠ a := by omega
theorem nat_off {n j k : Nat} (h : j ≠ k) : n + j ≠ n + k := by omega
theorem adr_far {n a : Addr} (h : a < n) (k : Nat) : (show Nat from n) + k ≠ (show Nat from a) := nat_far (n := n) (a := a) h
structure Far (a b z ti to j1 j2 : Addr) : Prop where
  sep : ZipSep2 z ti to j1 j2 [j1, a] [j2, b]
  n1 : a ≠ j1
  n2 : b ≠ j2
theorem turn_mix {P : Program} {w : World} {K : PySem.W.Frag} {es : List Expr} {ek : Nat} {ep : Pos} {a b z ti to j1 j2 : Addr} (D : Far a b z ti to j1 j2) :
    Turn P w K (.Tuple es ek ep) (Itm K a b) [z, ti, to, j1, j2] z (fun i g => IsZip g z ti to .none ∧ IsTupOf2 g ti (.ref j1) (.ref j2) ∧ (∃ x y, IsTupOf2 g to x y) ∧ g.IsTupleIter j1 a i ∧ g.IsListIter j2 b i) where
  mem := List.mem_cons_self
  obj := fun i g st c hc => by
    obtain ⟨s1, s2, ⟨x, y, s3⟩, ⟨o1, e1, _, d1⟩, ⟨o2, e2, _, d2⟩⟩ := st
    simp only [List.mem_cons, List.not_mem_nil, or_false] at hc
    rcases hc with rfl | rfl | rfl | rfl | rfl
    · exact ⟨_, s1, fun v e => nomatch e⟩
    · exact ⟨_, s2, fun v e => nomatch e⟩
    · exact ⟨_, s3, fun v e => nomatch e⟩
    · exact ⟨o1, e1, fun v e => by rw [d1] at e; cases e⟩
    · exact ⟨o2, e2, fun v e => by rw [d2] at e; cases e⟩
  keep := fun i g g' st kp => by
    obtain ⟨s1, s2, ⟨x, y, s3⟩, s4, s5⟩ := st
    have kp' : ∀ c o, c ∈ [z, ti, to, j1, j2] → g.get? c = some o → g'.get? c = some o := fun c o hc e => kp c hc o e
    exact ⟨kp' z _ (by simp) s1, kp' ti _ (by simp) s2, ⟨x, y, kp' to _ (by simp) s3⟩, s4.at fun o e => kp' j1 o (by simp) e, s5.at fun o e => kp' j2 o (by simp) e⟩
  item := by
    intro X e1 e2 e3 calm i ps sh sl Hp0 E inv far st go
    subst e1 e2 e3
    obtain ⟨s1, s2, ⟨x0, y0, s3⟩, s4, s5⟩ := st
    obtain ⟨vs, ws, v, u, qa, qb, hv, hu⟩ := go
    obtain ⟨is1, r1, p1, _⟩ := inv.tuple qa
    obtain ⟨is2, r2, p2, _⟩ := inv.list qb
    obtain ⟨g1, m1, rr1⟩ := r1.get hv
    obtain ⟨g2, m2, rr2⟩ := r2.get hu
    have hh : X.A.in1.handled = none := inv.ok.hd calm
    have l1 : i < is1.toArray.size := by rw [List.size_toArray]; exact (List.getElem?_eq_some_iff.mp m1).1
    have l2 : i < is2.toArray.size := by rw [List.size_toArray]; exact (List.getElem?_eq_some_iff.mp m2).1
    have zl : z < sh.heap.objs.size := Heap.lt_size s1
    refine wpAny_pyNext_zipD2_item D.sep (Draws.tuple hh j1 a D.n1 is1.toArray) (Draws.list hh j2 b D.n2 is2.toArray) s1 s2 s3 ⟨s4, p1⟩ ⟨s5, p2.isList⟩ l1 l2 fun x1 x2 hq tk y1 y2 zq tq t1 t2 nq sq kq => ?_
    have ex1 : x1 = g1 := Option.some.inj (y1.symm.trans (by simpa using m1))
    have ex2 : x2 = g2 := Option.some.inj (y2.symm.trans (by simpa using m2))
    subst ex1 ex2
    refine ⟨_, rfl, wpAny_letOwnedTupleGo_zip (s := { sh with heap := hq, toks := tk }) zq fun hr zr sb => ?_⟩
    have nr : hr.get? sh.heap.objs.size = some { cls := .type "tuple", data := .seq #[x1, x2] } := (sb.2 _ (Nat.ne_of_gt zl)).trans nq
    have fine : ObjOk X.prog X.w (upd Hp0 sh.heap.objs.size (.tup [v, u])) hr sh.heap.objs.size (.tup [v, u]) :=
      ⟨show 2 ≤ sizeLine by decide, [x1, x2], .cons rr1 (.cons rr2 .nil), ⟨_, nr, rfl, _, rfl⟩⟩
    have stays : ∀ c o, c ∉ [z, ti, to, j1, j2] → sh.heap.get? c = some o → hr.get? c = some o := fun c o hc e => by
      simp only [List.mem_cons, List.not_mem_nil, or_false, not_or] at hc
      exact (sb.2 c hc.1).trans (kq c o hc.1 hc.2.2.1 hc.2.2.2.1 hc.2.2.2.2 e)
    have inv2 : Inv X ps sl (upd Hp0 sh.heap.objs.size (.tup [v, u])) { sh with heap := hr, toks := tk } :=
      inv.turnedNew (t' := tk) (ch := [z, ti, to, j1, j2]) stays far (Nat.le_refl _) fine
    have j1z : j1 ≠ z := fun e => D.sep.zf1 (by rw [← e]; exact D.sep.mem1)
    have j2z : j2 ≠ z := fun e => D.sep.zf2 (by rw [← e]; exact D.sep.mem2)
    refine ⟨.ref sh.heap.objs.size, _, inv2, rfl, ⟨_, v, u, rfl, inv.hok.fresh (Nat.le_refl _), rfl, fun l hl => by rw [inv.tuple_inj hl qa]; exact hv, fun l hl => by rw [inv.list_inj hl qb]; exact hu⟩, ⟨zr, ?_, ⟨x1, x2, ?_⟩, ?_, ?_⟩, fun c hc => ?_⟩
    · exact (sb.2 _ D.sep.TIz).trans (kq _ _ D.sep.TIz D.sep.TITO D.sep.TIi1 D.sep.TIi2 s2)
    · exact (sb.2 _ D.sep.TOz).trans tq
    · exact t1.1.at fun o e => (sb.2 _ j1z).trans e
    · exact t2.1.at fun o e => (sb.2 _ j2z).trans e
    · have lt : c < sh.heap.objs.size := by
        simp only [List.mem_cons, List.not_mem_nil, or_false] at hc
        rcases hc with e | e | e | e | e <;> subst e
        · exact zl
        · exact Heap.lt_size s2
        · exact Heap.lt_size s3
        · obtain ⟨_, e1, _⟩ := s4; exact Heap.lt_size e1
        · obtain ⟨_, e2, _⟩ := s5; exact Heap.lt_size e2
      rw [upd_ne (Nat.ne_of_lt lt)]
      exact (far c hc).1
  done := by
    intro X e1 e2 e3 calm i ps sh sl Hp0 E inv far st sp
    subst e1 e2 e3
    obtain ⟨s1, s2, ⟨x0, y0, s3⟩, s4, s5⟩ := st
    obtain ⟨vs, ws, qa, qb, same, at_end⟩ := sp
    obtain ⟨is1, r1, p1, _⟩ := inv.tuple qa
    obtain ⟨is2, r2, p2, _⟩ := inv.list qb
    have n1 := r1.length
    have n2 := r2.length
    have hh : X.A.in1.handled = none := inv.ok.hd calm
    have z1 : is1.toArray.size = is1.length := List.size_toArray
    have z2 : is2.toArray.size = is2.length := List.size_toArray
    refine wpAny_pyNext_zipD2_end D.sep (Draws.tuple hh j1 a D.n1 is1.toArray) (Draws.list hh j2 b D.n2 is2.toArray) s1 s2 s3 (i := i) ⟨s4, p1⟩ ⟨s5, p2.isList⟩ (by omega) (by omega) (.inl (by omega)) fun hq tk kq => ⟨rfl, ?_⟩
    refine inv.turnedL (t' := tk) (ch := [z, ti, to, j1, j2]) (fun c o hc e => ?_) far
    simp only [List.mem_cons, List.not_mem_nil, or_false, not_or] at hc
    exact kq c o hc.1 hc.2.2.1 hc.2.2.2.1 hc.2.2.2.2 e
  self := fun A i sh Q E st q => wpAny_pyIter_zip st.1 q
def iMix (K : PySem.W.Frag) (ta : TA) : TI := fun σ H R => ta σ H fun xs H1 => ∃ a b vs ws, xs = [.ref a, .ref b] ∧ SqT K H1 a vs ∧ SqL K H1 b ws ∧ R (Itm K a b) H1
theorem pi_zipM {X : Cx} {x y : Expr} {ta : TA} {p pos ep : Pos} {es : List Expr} {ek : Nat} (gl : Gl X "zip") (mz : X.mg "zip" = none) (args : PA X [x, y] ta)
    (st1 : starEach [x, y] X.env = (false, eval x X.env) :: starEach [y] X.env := by rfl) (st2 : (backTo pos (starEach [y] X.env)).any (·.1) = false := by rfl) :
    PI X (.Tuple es ek ep) (.Call (.Name "zip" p) [x, y] [] pos) (iMix X.K ta) := by
  refine ⟨fun ps sh sl Hp0 R inv h => ?_⟩
  refine Call_ (ld_blt inv gl mz PyProof.Rows.boot_zip (PyProof.Rows.callWith_type1 (thn (args.run pos ps sh sl Hp0 _ inv h) fun us s1 ⟨xs, H1, inv1, r1, q1⟩ => ?_) st1 st2))
  obtain ⟨a, b, vs, ws, rfl, qa, qb, q⟩ := q1
  obtain ⟨u1, u2, rfl, ra, rb⟩ := vals2 r1
  cases ra
  cases rb
  obtain ⟨is1, r1, p1, _⟩ := inv1.tuple qa
  obtain ⟨is2, r2, p2, _⟩ := inv1.list qb
  have la : a < s1.heap.objs.size := by obtain ⟨o, e, _⟩ := p1; exact Heap.lt_size e
  have lb := p2.lt
  refine zip_begins2 (begins_tuple a is1.toArray) (begins_list b is2.toArray) p1 p2.isList fun hq zq t2 t3 o1 o2 sq kq => wpAny_pyIter_zip zq ?_
  have inv2 : Inv X ps sl H1 { s1 with heap := hq } := inv1.kept (t' := s1.toks) kq
  have far : Far a b (s1.heap.objs.size + 4) (s1.heap.objs.size + 2) (s1.heap.objs.size + 3) s1.heap.objs.size (s1.heap.objs.size + 1) := by
    refine ⟨⟨nat_off (j := 2) (k := 4) (by decide), nat_off (j := 3) (k := 4) (by decide), nat_off (j := 2) (k := 3) (by decide), nat_off (j := 2) (k := 0) (by decide), List.mem_cons_self, notin2 (nat_off (j := 4) (k := 0) (by decide)) (adr_far la 4), notin2 (nat_off (j := 3) (k := 0) (by decide)) (adr_far la 3), nat_off (j := 2) (k := 1) (by decide), List.mem_cons_self,
      notin2 (nat_off (j := 4) (k := 1) (by decide)) (adr_far lb 4), notin2 (nat_off (j := 3) (k := 1) (by decide)) (adr_far lb 3), notin2 (nat_off (j := 0) (k := 1) (by decide)) (adr_far lb 0), notin2 (nat_off (j := 1) (k := 0) (by decide)) (adr_far la 1)⟩, (adr_far la 0).symm, (adr_far lb 1).symm⟩
  refine ⟨s1.heap.objs.size + 4, [s1.heap.objs.size + 4, s1.heap.objs.size + 2, s1.heap.objs.size + 3, s1.heap.objs.size, s1.heap.objs.size + 1], _, _, H1, rfl, inv2, turn_mix far, ⟨zq, t2, ⟨_, _, t3⟩, ⟨_, o1, rfl, rfl⟩, ⟨_, o2, rfl, rfl⟩⟩, fun c hc => ?_, q⟩
  have old : s1.heap.objs.size ≤ c := by
    simp only [List.mem_cons, List.not_mem_nil, or_false] at hc
    rcases hc with e | e | e | e | e <;> subst e
    · exact Nat.le_add_right _ _
    · exact Nat.le_add_right _ _
    · exact Nat.le_add_right _ _
    · exact Nat.le_refl _
    · exact Nat.le_add_right _ _
  have fr := inv1.fpOk old (inv1.hok.fresh old)
  exact fr
end My

set_option linter.all false
namespace My
open PySem PySem.Spec PyProof.Rows L2
/-! ### paths -/
def Path (f : Str → List (Int × Str)) : Str → List (Int × Str) → Prop
  | _, [] => True
  | x, q :: r => q ∈ f x ∧ Path f q.2 r
def endOf : Str → List (Int × Str) → Str
  | x, [] => x
  | _, q :: r => endOf q.2 r
theorem endOf_app (x : Str) (p q : List (Int × Str)) : endOf x (p ++ q) = endOf (endOf x p) q := by
  induction p generalizing x with
  | nil => rfl
  | cons a r ih => exact ih a.2
theorem path_app {f : Str → List (Int × Str)} {x : Str} {p q : List (Int × Str)} : Path f x (p ++ q) ↔ Path f x p ∧ Path f (endOf x p) q := by
  induction p generalizing x with
  | nil => exact ⟨fun h => ⟨trivial, h⟩, fun h => h.2⟩
  | cons a r ih =>
    exact (and_congr_right fun _ => ih).trans and_assoc.symm
/-- rounds that follow one another -/
def Rds (f : Str → List (Int × Str)) (R : List Int) : Str → List (List (Int × Str)) → Prop
  | _, [] => True
  | x, p :: r => Path f x p ∧ p.map (·.1) = R ∧ Rds f R (endOf x p) r
def sts : Str → List (List (Int × Str)) → List Str
  | _, [] => []
  | x, p :: r => x :: sts (endOf x p) r
def fin : Str → List (List (Int × Str)) → Str
  | x, [] => x
  | x, p :: r => fin (endOf x p) r
theorem fin_app (x : Str) (a b : List (List (Int × Str))) : fin x (a ++ b) = fin (fin x a) b := by
  induction a generalizing x with
  | nil => rfl
  | cons p r ih => exact ih _
theorem sts_snoc (x : Str) (a : List (List (Int × Str))) (p : List (Int × Str)) : sts x (a ++ [p]) = sts x a ++ [fin x a] := by
  induction a generalizing x with
  | nil => rfl
  | cons q r ih => exact congrArg (x :: ·) (ih _)
theorem sts_len (x : Str) (a : List (List (Int × Str))) : (sts x a).length = a.length := by
  induction a generalizing x with
  | nil => rfl
  | cons q r ih => show (sts _ r).length + 1 = _; rw [ih]; rfl
theorem sts_get {x : Str} {a : List (List (Int × Str))} {j : Nat} {y : Str} (h : (sts x a)[j]? = some y) : y = fin x (a.take j) := by
  induction a generalizing x j with
  | nil => cases h
  | cons q r ih =>
    cases j with
    | zero => exact (Option.some.inj h).symm
    | succ j => exact ih h
theorem rds_app {f : Str → List (Int × Str)} {R : List Int} {x : Str} {a b : List (List (Int × Str))} : Rds f R x (a ++ b) ↔ Rds f R x a ∧ Rds f R (fin x a) b := by
  induction a generalizing x with
  | nil => exact ⟨fun h => ⟨trivial, h⟩, fun h => h.2⟩
  | cons p r ih =>
    constructor
    · rintro ⟨h1, h2, h3⟩
      obtain ⟨h4, h5⟩ := ih.mp h3
      exact ⟨⟨h1, h2, h4⟩, h5⟩
    · rintro ⟨⟨h1, h2, h3⟩, h4⟩; exact ⟨h1, h2, ih.mpr ⟨h3, h4⟩⟩
theorem rds_flat {f : Str → List (Int × Str)} {R : List Int} {x : Str} {a : List (List (Int × Str))} (h : Rds f R x a) : Path f x a.flatten ∧ endOf x a.flatten = fin x a ∧ a.flatten.map (·.1) = (List.replicate a.length R).flatten := by
  induction a generalizing x with
  | nil => exact ⟨trivial, rfl, rfl⟩
  | cons p r ih =>
    obtain ⟨h1, h2, h3⟩ := h
    obtain ⟨i1, i2, i3⟩ := ih h3
    rw [List.flatten_cons, path_app, endOf_app, List.map_append, i3, h2, List.length_cons, List.replicate_succ, List.flatten_cons]
    exact ⟨⟨h1, i1⟩, i2, rfl⟩
/-- a way that comes round, along stem and ring -/
structure WayOk (f : Str → List (Int × Str)) (x : Str) (S R : List Int) (P1 P2 : List (Int × Str)) : Prop where
  path : Path f x (P1 ++ P2)
  back : endOf x (P1 ++ P2) = endOf x P1
  ne : P2 ≠ []
  digs : ∃ j k, 0 < k ∧ P1.map (·.1) = S ++ (List.replicate j R).flatten ∧ P2.map (·.1) = (List.replicate k R).flatten ∧ j + k ≤ 8
/-! ### a comprehension of two walks -/
section
variable {J J1 : It} {n n1 : Nat} {G G1 : Hp → Prop} {Y Y1 : Nat → Hp → V → Hp → Prop}
theorem two_in (w : Walk J1 n1 G1 Y1) {B : (Hp → Prop) → V → Hp → Prop} {H0 : Hp} {Nx : Hp → Prop} (Pv : Nat → Hp → Prop) (h0 : Pv 0 H0) (hG : ∀ i H, i ≤ n1 → Pv i H → G1 H)
    (hs : ∀ i x H H', i < n1 → Pv i H → Y1 i H x H' → B (Pv (i + 1)) x H') (hd : ∀ H, Pv n1 H → Nx H) :
    ∃ W : Nat → Nat → Hp → Prop, (∃ m, W 0 m H0) ∧ ∀ i m H, W i m H → (J1.stop i H ∧ Nx H) ∨ (J1.go i H ∧ ∃ N : Hp → Prop, (∀ H', N H' → ∃ m', m' < m ∧ W (i + 1) m' H') ∧ ∀ x H', J1.yld i H x H' → B N x H') := by
  refine ⟨fun i m H => m = n1 - i ∧ i ≤ n1 ∧ Pv i H, ⟨_, rfl, Nat.zero_le _, h0⟩, ?_⟩
  rintro i m H ⟨rfl, hi, p⟩
  have q := hG i H hi p
  by_cases lt : i < n1
  · exact .inr ⟨w.goes i H lt q, Pv (i + 1), fun H' p' => ⟨_, by omega, rfl, lt, p'⟩, fun x H' y => hs i x H H' lt p (w.yields i H x H' lt q y)⟩
  · obtain rfl : i = n1 := by omega
    exact .inl ⟨w.stops H q, hd H p⟩
end
theorem walk_mix {K : PySem.W.Frag} {a b : Addr} {vs ws : List V} (e : vs.length = ws.length) : Walk (Itm K a b) vs.length (fun H => SqT K H a vs ∧ SqL K H b ws) (YPair (fun i => vs[i]?) (fun i => ws[i]?)) where
  goes := fun i H hi q => ⟨vs, ws, vs[i], ws[i], q.1, q.2, by simp [hi], by simp⟩
  stops := fun H q => ⟨vs, ws, q.1, q.2, e, rfl⟩
  yields := fun i H x H' hi q y => by
    obtain ⟨t, v, u, h1, h2, h3, h4, h5⟩ := y
    exact ⟨t, v, u, h1, h2, h3, h4 vs q.1, h5 ws q.2⟩
/-! ### pairs at their addresses -/
def Kp (H : Hp) (zp : List (Addr × Int × Str)) : Prop := ∀ z ∈ zp, H z.1 = some (.tup (pv2 z.2))
theorem Kp.same {H H' : Hp} {zp : List (Addr × Int × Str)} (h : Kp H zp) (e : Same H H') : Kp H' zp := fun z hz => e _ _ (h z hz)
theorem Kz.same {H H' : Hp} {zs : List (Addr × List Str)} (h : Kz H zs) (e : Same H H') : Kz H' zs := fun z hz => e _ _ (h z hz)
def refs {α : Type} (zp : List (Addr × α)) : List V := zp.map fun z => .ref z.1
theorem dq_mkrow {K : PySem.W.Frag} {G : Hp} {a : Addr} {zp : List (Addr × Int × Str)} (h : G a = some (.tup (refs zp))) (hp : Kp G zp) : Dq K G (.ref a) (rowD (zp.map (·.2))) := by
  refine .tup h ?_
  clear h
  induction zp with
  | nil => exact .nil
  | cons z r ih => exact .cons (.tup (hp z List.mem_cons_self) (.cons (.int _) (.cons (.str _) .nil))) (ih fun y hy => hp y (List.mem_cons_of_mem _ hy))
theorem kz_get {f : Str → List (Int × Str)} {ns : List Str} {ds : List Int} {L : List Str} {zs : List (Addr × List Str)} (h : zs.map (·.2) = kept f ns ds L) {i : Nat} (hi : i ≤ ds.length) : ∃ z, zs[i]? = some z ∧ z.2 = first f ns (ds.drop i) L := by
  have h1 := kept_get (f := f) (ns := ns) (L := L) hi
  rw [← h, List.getElem?_map] at h1
  obtain ⟨z, h2, h3⟩ := Option.map_eq_some_iff.mp h1
  exact ⟨z, h2, h3⟩
theorem cutV_drop (xs : List V) (k : Nat) : cutV xs (some (k : Int)) none = xs.drop k := by
  unfold cutV
  have a1 : HT.sIx xs.length xs.length none = xs.length := rfl
  rw [sIx_nat, a1]
  rcases Nat.le_total k xs.length with h | h
  · rw [Nat.min_eq_left h, List.take_of_length_le (by rw [List.length_drop]; exact Nat.le_refl _)]
  · rw [Nat.min_eq_right h, Nat.sub_self, List.take_zero, List.drop_eq_nil_of_le h]
theorem cutV_take (xs : List V) (k : Nat) : cutV xs none (some (k : Int)) = xs.take k := by
  unfold cutV
  have a1 : HT.sIx xs.length 0 none = 0 := rfl
  rw [sIx_nat, a1, List.drop_zero, Nat.sub_zero, ← List.take_take, List.take_length]
def spWalked (K : PySem.W.Frag) : Sp := fun vs H Q _ => ∃ (rr da ka : Addr) (x : Str) (b : Int) (ns : List Str) (rws : List (List (Int × Str))) (kvs : List (Key × V)) (ds : List Int) (L : List Str) (zs : List (Addr × List Str)) (G : Hp), vs = [.ref rr, .str x, .ref da, .ref ka] ∧ RowsR K G H rr ns rws kvs ∧ BookOk b ns rws ∧
  G da = some (.tup (ds.map V.int)) ∧ ds.length ≤ 5000 ∧ H ka = some (.lst (zs.map fun z => .ref z.1)) ∧ zs.map (·.2) = kept (rowAt ns rws) ns ds L ∧ Kz H zs ∧ x ∈ first (rowAt ns rws) ns ds L ∧
  ∀ (q : Addr) (zp : List (Addr × Int × Str)) (H' : Hp), Same H H' → H q = none → H' q = some (.lst (refs zp)) → Kp H' zp → Path (rowAt ns rws) x (zp.map (·.2)) → (zp.map (·.2)).map (·.1) = ds → endOf x (zp.map (·.2)) ∈ L → Q (.ref q) H'
section
variable {P : Program} {w : World} {K : PySem.W.Frag} {mg : Str → Option Value} {base : Heap}
theorem sq_same {K : PySem.W.Frag} {H H' : Hp} {a : Addr} {xs : List V} (h : SqL K H a xs) (e : Same H H') : SqL K H' a xs := h.elim (fun q => .inl (rd_same q e)) .inr
def spStrung (K : PySem.W.Frag) : Sp := fun vs H Q _ => ∃ (la : Addr) (wz : List (Addr × List (Addr × Int × Str))), vs = [.ref la] ∧ SqL K H la (refs wz) ∧ (∀ u ∈ wz, H u.1 = some (.lst (refs u.2))) ∧ (wz.flatMap (·.2)).length ≤ 100000 ∧
  ∀ (t : Addr) (H' : Hp), Same H H' → H t = none → H' t = some (.tup (refs (wz.flatMap (·.2)))) → Q (.ref t) H'
theorem refs_app {α : Type} (a b : List (Addr × α)) : refs (a ++ b) = refs a ++ refs b := List.map_append
theorem flat_le {α β : Type} (g : α → List β) (l : List α) (i : Nat) : ((l.take i).flatMap g).length ≤ (l.flatMap g).length := by
  have : l.flatMap g = (l.take i).flatMap g ++ (l.drop i).flatMap g := by rw [← List.flatMap_append, List.take_append_drop]
  rw [this, List.length_append]; omega
def spAlong (K : PySem.W.Frag) : Sp := fun vs H Q _ => ∃ (rr sa ra : Addr) (x : Str) (b : Int) (ns : List Str) (rws : List (List (Int × Str))) (kvs : List (Key × V)) (S R : List Int) (G : Hp), vs = [.ref rr, .str x, .ref sa, .ref ra] ∧ RowsR K G H rr ns rws kvs ∧ BookOk b ns rws ∧
  G sa = some (.tup (S.map V.int)) ∧ G ra = some (.tup (R.map V.int)) ∧ S.length + R.length ≤ 1000 ∧ R ≠ [] ∧
  (¬ Has (rowAt ns rws) ns S R x → ∀ H', Same H H' → Q .non H') ∧
  ∀ (t : Addr) (P1 P2 : List (Int × Str)) (H' : Hp), Same H H' → Dq K H' (.ref t) (.tuple [rowD P1, rowD P2]) → WayOk (rowAt ns rws) x S R P1 P2 → Q (.ref t) H'
theorem flat_map2 (rz : List (Addr × List (Addr × Int × Str))) : (rz.flatMap (·.2)).map (·.2) = (rz.map fun u => u.2.map (·.2)).flatten := by
  induction rz with
  | nil => rfl
  | cons u r ih => rw [List.flatMap_cons, List.map_append, ih, List.map_cons, List.flatten_cons]
theorem nod_snoc {α : Type} {l : List α} {x : α} (h : l.Nodup) (n : x ∉ l) : (l ++ [x]).Nodup := List.nodup_append.mpr ⟨h, List.nodup_cons.mpr ⟨fun z => (nomatch z), List.nodup_nil⟩, fun a ha b hb e => n (by rw [← List.mem_singleton.mp hb, ← e]; exact ha)⟩
end
end My

set_option linter.all false
namespace My
open PySem PySem.Spec PyProof.Rows L2
abbrev sLLive : Stmt := topS 39
def onL (ns : List Str) (rws : List (List (Int × Str))) (L : List Str) (x : Str) : Bool := (rowAt ns rws x).any fun q => decide (q.2 ∈ L)
def spLLive (K : PySem.W.Frag) : Sp := fun vs H Q _ => ∃ (rr dl : Addr) (b : Int) (ns : List Str) (rws : List (List (Int × Str))) (kvs : List (Key × V)) (G : Hp), vs = [.ref rr, .ref dl] ∧ RowsR K G H rr ns rws kvs ∧ BookOk b ns rws ∧ H dl = some (.lst (((List.range b.toNat).map fun i : Nat => (i : Int)).map V.int)) ∧
  ∀ (l : Addr) (L : List Str) (H' : Hp), Same H H' → H l = none → H' l = some (.lst (L.map V.str)) → Sub ns L → (∀ x ∈ L, ∃ q ∈ rowAt ns rws x, q.2 ∈ L) → Q (.ref l) H'
theorem any_empty {row : List (Int × Str)} {p : Int × Str → Bool} : (((row.filter p).map fun _ => (1 : Int)) = []) ↔ (row.any p = false) := by
  rw [List.map_eq_nil_iff, List.filter_eq_nil_iff, List.any_eq_false]
theorem one_dec {row : List (Int × Str)} {p : Int × Str → Bool} : decide (((row.filter p).map fun _ => (1 : Int)) = []) = !row.any p := by
  cases h : row.any p with
  | false => exact decide_eq_true (any_empty.mpr h)
  | true => exact decide_eq_false fun z => by have := any_empty.mp z; rw [h] at this; cases this
theorem eqv_il (l m : List Int) : PyData.eqv (.list (l.map PyData.int)) (.list (m.map PyData.int)) = decide (l = m) := by
  simp only [PyData.eqv]
  exact eqv_ints l m
theorem dp_il {K : PySem.W.Frag} {H : Hp} {a : Addr} {l : List Int} (h : H a = some (.lst (l.map V.int))) : Dp K H (.ref a) (.list (l.map PyData.int)) := by
  refine .lst (SqL.of h) ?_
  clear h
  induction l with
  | nil => exact .nil
  | cons x r ih => exact .cons (.int x) ih
theorem shaped_il (l : List Int) : SeqAt.shaped (.list (l.map PyData.int)) = true := by
  have h1 : PyData.canLayAll0 (l.map PyData.int) = true := by
    induction l with
    | nil => simp [PyData.canLayAll0]
    | cons x r ih => simp only [List.map_cons, PyData.canLayAll0, PyData.canLay0, ih, Bool.and_true]
  have h2 : PyData.depthAll (l.map PyData.int) = 0 := by
    clear h1
    induction l with
    | nil => simp only [List.map_nil, PyData.depthAll]
    | cons x r ih => simp only [List.map_cons, PyData.depthAll, PyData.depth, ih]; rfl
  unfold SeqAt.shaped
  simp only [PyData.canLay0, PyData.depth, h1, h2]
  rfl
section
variable {P : Program} {w : World} {K : PySem.W.Frag} {mg : Str → Option Value} {base : Heap}
theorem scLLive : FnScope ["rows", "digits", "left", "fresh", "name", "d", "other"] ["rows", "digits"] (defScope sLLive) := ⟨rfl, rfl, rfl, by decide +kernel, rfl, by decide +kernel, by decide +kernel⟩
theorem ok_llive {f : Addr} {fd : FuncData} (F : Fun K "_law_live" "_law_live" sLLive f fd) (T : TxW mg) (ml : mg "len" = none) : FnOk P w K mg base CX0 1 f fd ["rows", "digits"] (spLLive K) := by
  refine F.ok scLLive (fun vs H Q E h => ?_) (fun cdv A outer s H vs Q E hr h => ?_)
  · obtain ⟨rr, dl, b, ns, rws, kvs, G, rfl, _⟩ := h
    rfl
  · obtain ⟨rr, dl, b, ns, rws, kvs, G, rfl, RR, B, hdl, k⟩ := h
    have hu1 := Nat.lt_trans (Nat.add_lt_add_left (show 1 < 64 by decide) _) hr.units
    refine ⟨_, (pss_cons (ps_set (i := 2) scLLive.nd rfl (Or.inr rfl) (pe_callTy (call_listD rfl) (by rfl) T.list boot_list (pa_cons (pv 0) pa_nil)))
      (pss_one (ps_while PassesOwn.never (pt_val pe_bl) (pss_cons (ps_setLc (i := 3) (own := [("name", 4)]) (g := gName 4) rfl scLLive.nd rfl (by rfl) (sw_true (by rfl) (by rfl) (by rfl) (by rfl)) (pi_list (pv 2)) (blkOk_by (N := ["rows", "digits", "left", "fresh", "name", "d", "other"]) (sc := defScope sLLive) (by decide +kernel)) (fun _ _ _ _ _ => (pg_name (i := 4) scLLive.nd rfl (Or.inl rfl))) (fun _ _ _ _ _ => (pts_one (pt_cmpR (show OpR _ _ (rNeD K) from op_neD hr.units) (pe_lc (own := [("d", 5), ("other", 6)]) (g := gTup K 2 (gCons (gName 5) (gCons (gName 6) gNil))) rfl scLLive.nd (show PI _ _ _ (L2.iTup K (tDGet (tVar 0) (tVar 4))) from pi_tup (pe_dget hu1 (pv 0) (pv 4) (fun _ _ => rfl))) (blkOk_by (N := ["rows", "digits", "left", "fresh", "name", "d", "other"]) (sc := ({ kind := PySem.ScopeKind.function, names := [(".0", PySem.NameKind.local), ("name", PySem.NameKind.local), ("digits", PySem.NameKind.cell), ("left", PySem.NameKind.cell), ("rows", PySem.NameKind.cell)], isGenerator := false, isCoroutine := false, more := [] } : PySem.Scope)) (by decide +kernel)) (fun _ _ _ _ _ => (pg_tup (by rfl) (pgs_cons (pg_name (i := 5) scLLive.nd rfl (Or.inl rfl)) (pgs_cons (pg_name (i := 6) scLLive.nd rfl (Or.inl rfl)) pgs_nil)))) (fun _ _ _ _ _ => (pts_one (PW.pt (pw_and (pt_cmpR (show OpR _ _ (rIn K false) from op_in_seq) (pv 5) (pv 1) (by rfl)) (pw_and1 (pt_cmpR (show OpR _ _ (rIn K false) from op_in_seq) (pv 6) (pv 2) (by rfl))))))) (fun _ _ _ _ _ => pe_int)) (pe_lst pa_nil) (nomark _)))) (fun _ _ _ _ _ => (pv 4)))
      (pss_cons (ps_if (pt_cmpR op_eq (pe_callB call_len_seq (by rfl) ml PySem.boot_len (pa_cons (pv 3) pa_nil)) (pe_callB call_len_seq (by rfl) ml PySem.boot_len (pa_cons (pv 2) pa_nil)) (nomark _)) (pss_one (ps_ret (pv 2))) pss_nil)
      (pss_one (ps_set (i := 2) scLLive.nd rfl (Or.inr rfl) (pv 3)))))))), ?_⟩
    refine ⟨_, rfl, rr, kvs, rfl, RR.rd, fun na nna => ?_⟩
    rw [RR.list]
    refine while_by (fun σ H2 => ∃ (y3 : Option V) (a : Addr) (L : List Str), σ = [some (.ref rr), some (.ref dl), some (.ref a), y3, none, none, none] ∧ Same H H2 ∧ H a = none ∧ H2 a = some (.lst (L.map V.str)) ∧ Sub ns L)
      (fun σ H2 => match σ with | [_, _, some (.ref a), _, _, _, _] => (match H2 a with | some (.lst xs) => xs.length | _ => 0) | _ => 0) ⟨_, na, ns, rfl, Same.upd nna, nna, upd_same, Sub.all ns⟩ ?_ (fun σ H4 Q1 Q2 m h => by obtain ⟨v, e1, h2⟩ := h; exact ⟨v, e1, m _ _ h2⟩)
    rintro σ H2 ⟨y3, a, L, rfl, s2, na', ha, sub⟩
    have RR2 := RR.more s2
    have LinNs : ∀ y ∈ L, y ∈ ns := fun y hy => by obtain ⟨p, rfl⟩ := sub; exact (List.mem_filter.mp hy).1
    have lL : L.length ≤ 8 := by obtain ⟨p, rfl⟩ := sub; exact Nat.le_trans (List.length_filter_le _ _) B.n8
    refine ⟨true, rfl, ?_⟩
    refine ⟨_, rfl, a, rfl, ⟨_, SqL.of ha⟩, fun D nD => ?_⟩
    refine lc_it (walk_list (K := K) (a := a) (xs := L.map V.str)) (fun i Hi => Same H2 Hi ∧ Hi D = some (.lst (((L.take i).filter (onL ns rws L)).map V.str))) ⟨Same.upd nD, upd_same⟩ (fun i Hi _ q => SqL.of (q.1 _ _ ha)) ?_ ?_
    · rintro i r Hi Hj hi ⟨si, hD⟩ ⟨rfl, hx⟩
      rw [List.getElem?_map] at hx
      obtain ⟨x, hx2, rfl⟩ := Option.map_eq_some_iff.mp hx
      have xin := LinNs x (List.mem_of_getElem? hx2)
      have tk : L.take (i + 1) = L.take i ++ [x] := by rw [List.take_add_one, hx2]; rfl
      rw [tk, List.filter_append]
      have lz : ((L.take i).filter (onL ns rws L)).length ≤ 8 := by
        have h1 := List.length_filter_le (onL ns rws L) (L.take i)
        rw [List.length_take] at h1
        omega
      obtain ⟨v, dg, dq⟩ := (RR2.more si).row xin
      obtain ⟨ra, as, rfl, gra, las, gas⟩ := dq_row dq
      have r12 := rowAt_len B x
      have gi := (RR2.more si).same
      refine ⟨rfl, ?_⟩
      refine ⟨_, rfl, _, rfl, rr, _, rfl, dg, ra, rfl, ⟨_, SqT.of (gi _ _ gra)⟩, fun E nE => ?_⟩
      refine lc_it (walk_tup (K := K) (a := ra) (xs := as)) (fun j Hk => Same Hj Hk ∧ Hk E = some (.lst (((((rowAt ns rws x).take j).filter fun q => decide (q.2 ∈ L)).map fun _ => (1 : Int)).map V.int))) ⟨Same.upd nE, upd_same⟩ (fun j Hk _ q => SqT.of (q.1 _ _ (gi _ _ gra))) ?_ ?_
      · rintro j r Hk Hm hj ⟨sk, hE⟩ ⟨rfl, hr'⟩
        have hj2 : j < (rowAt ns rws x).length := by omega
        obtain ⟨c, hc, gc⟩ := gas j _ (List.getElem?_eq_getElem hj2)
        obtain rfl : r = .ref c := Option.some.inj (hr'.symm.trans hc)
        have qin := B.inb (List.getElem_mem hj2)
        have tk2 : (rowAt ns rws x).take (j + 1) = (rowAt ns rws x).take j ++ [(rowAt ns rws x)[j]] := by rw [List.take_add_one, List.getElem?_eq_getElem hj2]; rfl
        rw [tk2, List.filter_append]
        generalize (rowAt ns rws x)[j] = q at gc qin tk2 ⊢
        have lz2 : (((rowAt ns rws x).take j).filter fun q => decide (q.2 ∈ L)).length ≤ 12 := by
          have h1 := List.length_filter_le (fun q : Int × Str => decide (q.2 ∈ L)) ((rowAt ns rws x).take j)
          rw [List.length_take] at h1
          omega
        have sall := (s2.trans si).trans sk
        refine ⟨c, _, rfl, SqT.of (sk _ _ (gi _ _ gc)), rfl, _, _, rfl, _, _, rfl, rfl, ?_⟩
        refine ⟨rfl, ?_⟩
        refine ⟨_, rfl, _, rfl, dl, _, rfl, .inl (SqL.of (sall _ _ hdl)), rfl, flat_ints _, _, rfl, ?_⟩
        have din : q.1 ∈ (List.range b.toNat).map fun i : Nat => (i : Int) := by
          obtain ⟨d0, d1, _⟩ := qin
          exact List.mem_map.mpr ⟨q.1.toNat, List.mem_range.mpr (by omega), by omega⟩
        refine ifT (by show inV (.int q.1) _ = true; rw [inV_int]; exact decide_eq_true din) ?_
        refine ⟨_, rfl, _, rfl, a, _, rfl, .inl (SqL.of (sk _ _ (si _ _ ha))), rfl, flat_strs _, _, rfl, ?_⟩
        by_cases c2 : q.2 ∈ L
        · refine ifT (by show inV (.str q.2) (L.map V.str) = true; rw [inV_str]; exact decide_eq_true c2) ?_
          refine ⟨_, hE, by rw [List.length_map, List.length_map, sizeLine_eq]; omega, fun c' o hc' => ?_, ?_⟩
          · rw [upd_ne (ne_of_none hc' nE)]; exact sk c' o hc'
          · rw [upd_same, List.filter_cons_of_pos (p := fun q : Int × Str => decide (q.2 ∈ L)) (decide_eq_true c2), List.filter_nil, List.map_append, List.map_append]; rfl
        · refine ifF (by show inV (.str q.2) (L.map V.str) = false; rw [inV_str]; exact decide_eq_false c2) ?_
          rw [List.filter_cons_of_neg (p := fun q : Int × Str => decide (q.2 ∈ L)) (by rw [decide_eq_false c2]; exact Bool.false_ne_true), List.filter_nil, List.append_nil]
          exact ⟨sk, hE⟩
      · rintro Hk ⟨sk, hE⟩
        rw [las, List.take_length] at hE
        refine ⟨by decide, fun e ne => ?_⟩
        have hE2 : (upd Hk e (.lst [])) E = _ := (upd_ne (ne_of_none hE ne)).trans hE
        have sj : Same Hj (upd Hk e (.lst [])) := sk.trans (Same.upd ne)
        refine ⟨.list ((((rowAt ns rws x).filter fun q => decide (q.2 ∈ L)).map fun _ => (1 : Int)).map PyData.int), .list (([] : List Int).map PyData.int), dp_il hE2, dp_il (l := []) upd_same, shaped_il _, shaped_il _, _, rfl, ?_⟩
        rw [eqv_il, one_dec]
        by_cases c : onL ns rws L x = true
        · rw [List.filter_cons_of_pos c, List.filter_nil]
          have c' : (rowAt ns rws x).any (fun q => decide (q.2 ∈ L)) = true := c
          refine ifT (by rw [c']; rfl) ⟨_, rfl, _, sj _ _ hD, by rw [List.length_map, sizeLine_eq]; omega, fun c' o hc' => ?_, ?_⟩
          · rw [upd_ne (ne_of_none hc' nD)]; exact sj _ _ (si c' o hc')
          · rw [upd_same, List.map_append]; rfl
        · rw [List.filter_cons_of_neg c, List.filter_nil, List.append_nil]
          have c' : (rowAt ns rws x).any (fun q => decide (q.2 ∈ L)) = false := by simpa [onL] using c
          exact ifF (by rw [c']; rfl) ⟨si.trans sj, sj _ _ hD⟩
    · rintro Hi ⟨si, hD⟩
      rw [List.length_map, List.take_length] at hD
      have ha3 := si _ _ ha
      have DH : H D = none := s2.free nD
      refine ⟨_, rfl, D, _, rfl, .inl (SqL.of hD), _, rfl, a, _, rfl, .inl (SqL.of ha3), rfl, _, rfl, ?_⟩
      rw [List.length_map, List.length_map]
      have le := List.length_filter_le (onL ns rws L) L
      by_cases e : (L.filter (onL ns rws L)).length = L.length
      · refine ifT (by rw [e]; exact decide_eq_true rfl) ⟨_, rfl, ?_⟩
        refine k a L Hi (s2.trans si) na' ha3 sub fun x hx => ?_
        have hall : L.filter (onL ns rws L) = L := (List.length_filter_eq_length_iff.mp e) |> fun h => List.filter_eq_self.mpr h
        rw [← hall] at hx
        obtain ⟨q, hq, h2⟩ := List.any_eq_true.mp (List.mem_filter.mp hx).2
        exact ⟨q, hq, of_decide_eq_true h2⟩
      · refine ifF (decide_eq_false fun z => e (by have := V.int.inj z; omega)) ?_
        refine ⟨_, rfl, ⟨_, D, L.filter (onL ns rws L), rfl, s2.trans si, DH, hD, ?_⟩, ?_⟩
        · obtain ⟨p, rfl⟩ := sub
          exact ⟨_, List.filter_filter⟩
        · show (match Hi D with | some (.lst xs) => xs.length | _ => 0) < (match H2 a with | some (.lst xs) => xs.length | _ => 0)
          rw [hD, ha]
          show (((L.filter (onL ns rws L)).map V.str).length) < (L.map V.str).length
          rw [List.length_map, List.length_map]; omega
end
end My

set_option linter.all false
namespace My
open PySem PySem.Spec PyProof.Rows L2
abbrev sIsWay : Stmt := topS 41
/-! ### data in a tuple of data -/
section
variable {X : Cx}
def rInT (K : PySem.W.Frag) (neg : Bool) : R2 := fun x y H Q => ∃ d ds, Dp K H x d ∧ Dp K H y (.tuple ds) ∧ SeqAt.shaped d = true ∧ SeqAt.shaped (.tuple ds) = true ∧ d.depth ≤ 10 ∧ Q (.bl (if neg then !ds.any fun z => PyData.eqv z d else ds.any fun z => PyData.eqv z d)) H
theorem few_units {A : Around} {ds : List PyData} {d : PyData} (hu : A.units + 64 < cLine) (h : d.depth ≤ 10) : A.units + 1 + min (PyData.depthAll ds) d.depth < cLine := by omega
theorem op_inT (hu : X.A.units + 64 < cLine) : OpR X (compareOp .In) (rInT X.K false) := by
  intro ps sh sl Hp0 x y v u Q inv rx ry h
  obtain ⟨d, ds, hd, he, sd, se, dd, q⟩ := h
  obtain ⟨as, r1⟩ := Dp.reads inv d x v hd rx
  obtain ⟨bs, r2⟩ := Dp.reads inv (.tuple ds) y u he ry
  exact SeqAt.in_tuple_reads r2 r1 (SeqAt.canLay_of_shaped se) (SeqAt.canLay_of_shaped sd) (few_units hu dd) ⟨.bl _, Hp0, inv, rfl, q⟩
theorem op_notInT (hu : X.A.units + 64 < cLine) : OpR X (compareOp .NotIn) (rInT X.K true) := by
  intro ps sh sl Hp0 x y v u Q inv rx ry h
  obtain ⟨d, ds, hd, he, sd, se, dd, q⟩ := h
  obtain ⟨as, r1⟩ := Dp.reads inv d x v hd rx
  obtain ⟨bs, r2⟩ := Dp.reads inv (.tuple ds) y u he ry
  exact SeqAt.notIn_tuple_reads r2 r1 (SeqAt.canLay_of_shaped se) (SeqAt.canLay_of_shaped sd) (few_units hu dd) ⟨.bl _, Hp0, inv, rfl, q⟩
end
def pairP (q : Int × Str) : PyData := .tuple [.int q.1, .str q.2]
theorem shaped_pair {q : Int × Str} (h : Lets (tl q.2)) : SeqAt.shaped (pairP q) = true := by
  have := strOk_lets h
  unfold SeqAt.shaped pairP
  simp only [PyData.canLay0, PyData.canLayAll0, PyData.depth, PyData.depthAll, this]
  rfl
theorem shaped_row {row : List (Int × Str)} (h : ∀ q ∈ row, Lets (tl q.2)) : SeqAt.shaped (.tuple (row.map pairP)) = true := by
  have h1 : PyData.canLayAll0 (row.map pairP) = true := by
    induction row with
    | nil => simp [PyData.canLayAll0]
    | cons q r ih =>
      have e := strOk_lets (h q List.mem_cons_self)
      simp only [List.map_cons, PyData.canLayAll0, ih (fun x hx => h x (List.mem_cons_of_mem _ hx)), pairP, PyData.canLay0, e, Bool.and_true]
  have h2 : PyData.depthAll (row.map pairP) ≤ 1 := by
    clear h1
    induction row with
    | nil => simp only [List.map_nil, PyData.depthAll]; omega
    | cons q r ih =>
      have := ih (fun x hx => h x (List.mem_cons_of_mem _ hx))
      simp only [List.map_cons, PyData.depthAll, pairP, PyData.depth]
      omega
  unfold SeqAt.shaped
  simp only [PyData.canLay0, PyData.depth, h1, Bool.true_and]
  exact decide_eq_true (by omega)
theorem dp_row {K : PySem.W.Frag} {G H : Hp} {v : V} {row : List (Int × Str)} (h : Dq K G v (rowD row)) (e : Same G H) : Dp K H v (.tuple (row.map pairP)) := by
  obtain ⟨a, as, rfl, ga, las, gas⟩ := dq_row h
  refine .tup (SqT.of (e _ _ ga)) ?_
  clear h ga
  induction row generalizing as with
  | nil => obtain rfl := List.eq_nil_of_length_eq_zero las; exact .nil
  | cons q r ih =>
    cases as with
    | nil => cases las
    | cons u us =>
      obtain ⟨c, hc, gc⟩ := gas 0 q rfl
      obtain rfl : u = .ref c := Option.some.inj hc
      exact .cons (.tup (SqT.of (e _ _ gc)) (.cons (.int _) (.cons (.str _) .nil))) (ih us (by simpa using las) fun i z hz => gas (i + 1) z hz)
theorem dp_pair {K : PySem.W.Frag} {H : Hp} {c : Addr} {q : Int × Str} (h : H c = some (.tup (pv2 q))) : Dp K H (.ref c) (pairP q) := .tup (SqT.of h) (.cons (.int _) (.cons (.str _) .nil))
theorem eqv_pair (q : Int × Str) : PyData.eqv (pairP q) (pairP q) = true := by simp [pairP, PyData.eqv, PyData.eqvAll]
theorem any_pair {row : List (Int × Str)} {q : Int × Str} (h : q ∈ row) : ((row.map pairP).any fun z => PyData.eqv z (pairP q)) = true := List.any_eq_true.mpr ⟨pairP q, List.mem_map.mpr ⟨q, h, rfl⟩, eqv_pair q⟩
structure TxI (mg : Str → Option Value) : Prop where
  isi : mg "isinstance" = none
  tuple : mg "tuple" = none
  bool : mg "bool" = none
  len : mg "len" = none
theorem path_at {f : Str → List (Int × Str)} {x : Str} {p : List (Int × Str)} (h : Path f x p) {i : Nat} {q : Int × Str} (hq : p[i]? = some q) : q ∈ f (endOf x (p.take i)) ∧ endOf x (p.take (i + 1)) = q.2 := by
  induction p generalizing x i with
  | nil => cases hq
  | cons a r ih =>
    cases i with
    | zero => obtain rfl := Option.some.inj hq; exact ⟨h.1, rfl⟩
    | succ i => exact ih h.2 hq
def spIsWay (K : PySem.W.Frag) : Sp := fun vs H Q _ => ∃ (bk rr : Addr) (x : Str) (v1 v2 : V) (P1 P2 : List (Int × Str)) (b : Int) (ns : List Str) (rws : List (List (Int × Str))) (kvs : List (Key × V)) (G G2 : Hp), vs = [.ref bk, .str x, v1, v2] ∧ RowsR K G H rr ns rws kvs ∧ BookOk b ns rws ∧ G bk = some (.tup [.int b, .ref rr]) ∧ x ∈ ns ∧
  Same G2 H ∧ Dq K G2 v1 (rowD P1) ∧ Dq K G2 v2 (rowD P2) ∧ Path (rowAt ns rws) x (P1 ++ P2) ∧ endOf x (P1 ++ P2) = endOf x P1 ∧ P2 ≠ [] ∧ P1.length + P2.length ≤ 100000 ∧ ∀ H', Same H H' → Q (.bl true) H'
section
variable {P : Program} {w : World} {K : PySem.W.Frag} {mg : Str → Option Value} {base : Heap}
theorem scIsWay : FnScope ["book", "name", "stem", "ring", "rows", "here", "pair"] ["book", "name", "stem", "ring"] (defScope sIsWay) := ⟨rfl, rfl, rfl, by decide +kernel, rfl, by decide +kernel, by decide +kernel⟩
theorem ok_isway {f : Addr} {fd : FuncData} (F : Fun K "_law_is_way" "_law_is_way" sIsWay f fd) (T : TxI mg) : FnOk P w K mg base CX0 1 f fd ["book", "name", "stem", "ring"] (spIsWay K) := by
  refine F.ok scIsWay (fun vs H Q E h => ?_) (fun cdv A outer s H vs Q E hr h => ?_)
  · obtain ⟨bk, rr, x, v1, v2, P1, P2, b, ns, rws, kvs, G, G2, rfl, _⟩ := h
    rfl
  · obtain ⟨bk, rr, x, v1, v2, P1, P2, b, ns, rws, kvs, G, G2, rfl, RR, B, gb, xin, e2, d1, d2, path, back, ne, bd, k⟩ := h
    have hu1 := Nat.lt_trans (Nat.add_lt_add_left (show 1 < 64 by decide) _) hr.units
    refine ⟨_, (pss_cons (ps_set (i := 4) scIsWay.nd rfl (Or.inl rfl) (pe_ix ix_tup (pv 0) pe_int (fun _ _ => rfl)))
      (pss_cons (ps_if (PW.pt (pw_or (pt_not (pt_val (pe_callB call_isi (by rfl) T.isi boot_isinstance (pa_cons (pv 2) (pa_cons (pe_bltn (v := .ty "tuple") (by rfl) T.tuple boot_tuple rfl) pa_nil))))) (pw_or (pt_not (pt_val (pe_callB call_isi (by rfl) T.isi boot_isinstance (pa_cons (pv 3) (pa_cons (pe_bltn (v := .ty "tuple") (by rfl) T.tuple boot_tuple rfl) pa_nil))))) (pw_or1 (pt_cmpR (op_eqD hr.units) (pv 3) (pe_tup pa_nil) (nomark _)))))) (pss_one (ps_ret pe_bl)) pss_nil)
      (pss_cons (ps_set (i := 5) scIsWay.nd rfl (Or.inl rfl) (pv 1))
      (pss_cons (ps_for PassesOwn.never rfl (pi_tup (pe_op op_catG (pv 2) (pv 3))) (pg_name (i := 6) scIsWay.nd rfl (Or.inl rfl)) (pss_cons (ps_if (PW.pt (pw_or (pt_not (pt_val (pe_callB call_isi (by rfl) T.isi boot_isinstance (pa_cons (pv 6) (pa_cons (pe_bltn (v := .ty "tuple") (by rfl) T.tuple boot_tuple rfl) pa_nil))))) (pw_or (pt_cmpR op_ne (pe_callB call_len_seq (by rfl) T.len PySem.boot_len (pa_cons (pv 6) pa_nil)) pe_int (nomark _)) (pw_or (pt_val (pe_callB call_isi (by rfl) T.isi boot_isinstance (pa_cons (pe_ix ix_tup (pv 6) pe_int (fun _ _ => rfl)) (pa_cons (pe_bltn (v := .ty "bool") (by rfl) T.bool boot_bool rfl) pa_nil)))) (pw_or1 (pt_cmpR (op_notInT hr.units) (pv 6) (pe_dget hu1 (pv 4) (pv 5) (fun _ _ => rfl)) (by rfl))))))) (pss_one (ps_ret pe_bl)) pss_nil)
      (pss_one (ps_set (i := 5) scIsWay.nd rfl (Or.inl rfl) (pe_ix ix_tup (pv 6) pe_int (fun _ _ => rfl))))))
      (pss_one (ps_ret (pe_cmpR (op_inT hr.units) (pe_ix ix_tup (pv 3) pe_int (fun _ _ => rfl)) (pe_dget hu1 (pv 4) (pv 5) (fun _ _ => rfl)) (by rfl)))))))), ?_⟩
    obtain ⟨a1, as1, rfl, g1, l1, at1⟩ := dq_row d1
    obtain ⟨a2, as2, rfl, g2, l2, at2⟩ := dq_row d2
    have names : ∀ {y : Str}, y ∈ ns → Lets (tl y) := fun hy => (B.ok _ hy).lets
    have rowL : ∀ y, ∀ q ∈ rowAt ns rws y, Lets (tl q.2) := fun y q hq => names (B.inb hq).2.2
    have endIn : ∀ i, endOf x ((P1 ++ P2).take i) ∈ ns := by
      intro i
      induction i with
      | zero => exact xin
      | succ i ih =>
        rcases Nat.lt_or_ge i (P1 ++ P2).length with c | c
        · obtain ⟨h1, h2⟩ := path_at path (List.getElem?_eq_getElem c)
          rw [h2]; exact (B.inb h1).2.2
        · rw [List.take_of_length_le (by omega)] at ih ⊢; exact ih
    refine ⟨_, rfl, bk, _, 1, .ref rr, rfl, rfl, SqT.of (RR.same _ _ gb), atI_nat (j := 1) rfl, ?_⟩
    refine ⟨_, rfl, _, _, _, _, _, rfl, .ty _, d1.ty e2, kit_ty (kit_tuple _), _, rfl, ?_⟩
    refine ifF rfl ?_
    refine ⟨_, rfl, _, _, _, _, _, rfl, .ty _, d2.ty e2, kit_ty (kit_tuple _), _, rfl, ?_⟩
    refine ifF rfl ?_
    have e2' := dp_row d2 e2
    refine ⟨_, rfl, (by decide), fun tz ntz => ?_⟩
    have s1 : Same H (upd H tz (.tup [])) := Same.upd ntz
    refine ⟨.tuple (P2.map pairP), .tuple (([] : List (Int × Str)).map pairP), dp_row d2 (e2.trans s1), .tup (SqT.of upd_same) .nil, shaped_row fun q hq => ?_, rfl, _, rfl, ?_⟩
    · obtain ⟨i, hi⟩ := List.mem_iff_getElem?.mp (List.mem_append_right P1 hq)
      exact rowL _ q (path_at path hi).1
    have eqne : PyData.eqv (.tuple (P2.map pairP)) (.tuple (([] : List (Int × Str)).map pairP)) = false := by
      cases P2 with
      | nil => exact absurd rfl ne
      | cons q r => simp [PyData.eqv, PyData.eqvAll]
    refine ifF eqne ?_
    refine ⟨_, rfl, ?_⟩
    refine ⟨_, rfl, _, rfl, G2, a1, a2, _, _, rfl, rfl, e2.trans s1, g1, g2, by rw [sizeLine_eq]; omega, fun c G3 H3 m3 hc => ?_⟩
    have s3 := s1.trans m3.hh
    have RR3 := RR.more s3
    have g3 : Same G2 H3 := m3.gg.trans m3.gh
    have lall : (as1 ++ as2).length = (P1 ++ P2).length := by rw [List.length_append, List.length_append, l1, l2]
    refine ⟨c, rfl, ⟨_, SqT.of (m3.gh _ _ hc)⟩, for_tup (K := K) (a := c) (xs := as1 ++ as2) (fun i σ H4 => ∃ y6 : Option V, σ = [some (.ref bk), some (.str x), some (.ref a1), some (.ref a2), some (.ref rr), some (.str (endOf x ((P1 ++ P2).take i))), y6] ∧ Same H3 H4) ⟨none, rfl, Same.refl _⟩ (fun i σ H4 _ q => SqT.of (by obtain ⟨_, _, q⟩ := q; exact q _ _ (m3.gh _ _ hc))) ?_ ?_⟩
    · rintro i u σ H4 hu ⟨y6, rfl, s4⟩
      have hi : i < (P1 ++ P2).length := by rw [← lall]; exact (List.getElem?_eq_some_iff.mp hu).1
      have hq := List.getElem?_eq_getElem hi
      obtain ⟨hrow, hend⟩ := path_at path hq
      rw [hend]
      generalize (P1 ++ P2)[i] = q at hq hrow
      obtain ⟨cq, rfl, gq⟩ : ∃ cq, u = .ref cq ∧ G2 cq = some (.tup (pv2 q)) := by
        rcases Nat.lt_or_ge i P1.length with z | z
        · rw [List.getElem?_append_left z] at hq
          rw [List.getElem?_append_left (by omega)] at hu
          obtain ⟨cq, h1, h2⟩ := at1 i q hq
          exact ⟨cq, Option.some.inj (hu.symm.trans h1), h2⟩
        · rw [List.getElem?_append_right z] at hq
          rw [List.getElem?_append_right (by omega), l1] at hu
          obtain ⟨cq, h1, h2⟩ := at2 _ q hq
          exact ⟨cq, Option.some.inj (hu.symm.trans h1), h2⟩
      have g4 : Same G2 H4 := g3.trans s4
      have hcq := g4 _ _ gq
      have dqq : Dq K G2 (.ref cq) (pairP q) := .tup gq (.cons (.int _) (.cons (.str _) .nil))
      have RR4 := RR3.more s4
      obtain ⟨v, dg, dq⟩ := RR4.row (endIn i)
      refine ⟨_, rfl, _, _, _, _, _, rfl, .ty _, dqq.ty g4, kit_ty (kit_tuple _), _, rfl, ?_⟩
      refine ifF rfl ?_
      refine ⟨_, rfl, cq, _, rfl, .inr (SqT.of hcq), rfl, _, rfl, ?_⟩
      refine ifF rfl ?_
      refine ⟨_, rfl, cq, _, 0, .int q.1, rfl, rfl, SqT.of hcq, atI_nat (j := 0) rfl, _, _, _, _, _, rfl, .ty _, (Dq.int q.1 : Dq K G2 _ _).ty g4, kit_ty (kit_bool _), _, rfl, ?_⟩
      refine ifF rfl ?_
      refine ⟨_, rfl, _, rfl, _, rfl, rr, v, rfl, dg, pairP q, (rowAt ns rws (endOf x ((P1 ++ P2).take i))).map pairP, dp_pair hcq, dp_row dq RR4.same, shaped_pair (rowL _ q hrow), shaped_row (rowL _), by show _ ≤ 10; simp [pairP, PyData.depth, PyData.depthAll], _, rfl, ?_⟩
      refine ifF (by show (!_) = false; rw [any_pair hrow]; rfl) ?_
      refine ⟨_, rfl, cq, _, 1, .str q.2, rfl, rfl, SqT.of hcq, atI_nat (j := 1) rfl, _, rfl, s4⟩
    · rintro σ H4 ⟨y6, rfl, s4⟩
      rw [lall, List.take_length]
      obtain ⟨q0, r0, rfl⟩ : ∃ q r, P2 = q :: r := by cases P2 with | nil => exact absurd rfl ne | cons q r => exact ⟨q, r, rfl⟩
      obtain ⟨c0, h1, h2⟩ := at2 0 q0 rfl
      have g4 : Same G2 H4 := g3.trans s4
      have RR4 := RR3.more s4
      have ein : endOf x (P1 ++ q0 :: r0) ∈ ns := by
        have := endIn (P1 ++ q0 :: r0).length
        rwa [List.take_length] at this
      obtain ⟨v, dg, dq⟩ := RR4.row ein
      have hrow : q0 ∈ rowAt ns rws (endOf x (P1 ++ q0 :: r0)) := by
        rw [back]
        exact (path_app.mp path).2.1
      refine ⟨_, rfl, a2, _, 0, .ref c0, rfl, rfl, SqT.of (g4 _ _ g2), atI_nat (j := 0) h1, _, rfl, _, rfl, rr, v, rfl, dg, pairP q0, (rowAt ns rws (endOf x (P1 ++ q0 :: r0))).map pairP, dp_pair (g4 _ _ h2), dp_row dq RR4.same, shaped_pair (rowL _ q0 hrow), shaped_row (rowL _), by show _ ≤ 10; simp [pairP, PyData.depth, PyData.depthAll], ?_⟩
      have e : (if false = true then !((rowAt ns rws (endOf x (P1 ++ q0 :: r0))).map pairP).any fun z => PyData.eqv z (pairP q0) else ((rowAt ns rws (endOf x (P1 ++ q0 :: r0))).map pairP).any fun z => PyData.eqv z (pairP q0)) = true := any_pair hrow
      rw [e]
      exact k H4 (s3.trans s4)
end
end My

set_option linter.all false
namespace My
open PySem PySem.Spec PyProof.Rows L2
abbrev sLWay : Stmt := topS 40
def spWayTo (K : PySem.W.Frag) : Sp := fun vs H Q _ => ∃ (bk rr : Addr) (x : Str) (v : V) (n d b : Int) (ns : List Str) (rws : List (List (Int × Str))) (kvs : List (Key × V)) (G : Hp), vs = [.ref bk, .str x, v] ∧ RowsR K G H rr ns rws kvs ∧ BookOk b ns rws ∧ G bk = some (.tup [.int b, .ref rr]) ∧
  Dq K G v (.tuple [.int n, .int d]) ∧ Fra b n d ∧
  (∀ W, WR b n d W → (∀ p ∈ W, ¬ Has (rowAt ns rws) ns p.1 p.2 x) → ∀ H', Same H H' → Q .non H') ∧
  ∀ W p, WR b n d W → p ∈ W → Good b n d p → ∀ (t : Addr) (P1 P2 : List (Int × Str)) (H' : Hp), Same H H' → Dq K H' (.ref t) (.tuple [rowD P1, rowD P2]) → WayOk (rowAt ns rws) x p.1 p.2 P1 P2 → Q (.ref t) H'
section
variable {P : Program} {w : World} {K : PySem.W.Frag} {mg : Str → Option Value} {base : Heap}
def spLWay (K : PySem.W.Frag) : Sp := fun vs H Q _ => ∃ (p pc bk rr la : Addr) (x : Str) (b : Int) (ns : List Str) (rws : List (List (Int × Str))) (kvs : List (Key × V)) (L : List Str) (t : Nat) (G : Hp), vs = [.ref p, .ref bk, .ref la, .str x] ∧ PenC H p pc t ∧ t + 100 < 2 ^ 29 ∧ G p = none ∧ RowsR K G H rr ns rws kvs ∧ BookOk b ns rws ∧ G bk = some (.tup [.int b, .ref rr]) ∧
  H la = some (.lst (L.map V.str)) ∧ la ≠ p ∧ (∀ y ∈ L, y ∈ ns) ∧ (∀ y ∈ L, ∃ q ∈ rowAt ns rws y, q.2 ∈ L) ∧ x ∈ L ∧
  ∀ (r : Addr) (P1 P2 : List (Int × Str)) (H' : Hp), But p H H' → PenC H' p pc (t + 20) → Dq K (del H' p) (.ref r) (.tuple [rowD P1, rowD P2]) → Path (rowAt ns rws) x (P1 ++ P2) → endOf x (P1 ++ P2) = endOf x P1 → P2 ≠ [] → P1.length + P2.length ≤ 20 → Q (.ref r) H'
structure TxY (mg : Str → Option Value) : Prop where
  len : mg "len" = none
  int : mg "int" = none
  tuple : mg "tuple" = none
theorem ref_at {α : Type} {zq : List (Addr × α)} {m : Int} (h0 : 0 ≤ m) (h1 : m < (zq.length : Int)) : ∃ z ∈ zq, atI (refs zq) m = some (.ref z.1) := by
  obtain ⟨j, rfl⟩ : ∃ j : Nat, m = (j : Int) := ⟨m.toNat, by omega⟩
  have hj : j < zq.length := by omega
  exact ⟨zq[j], List.getElem_mem hj, atI_nat (by unfold refs; rw [List.getElem?_map, List.getElem?_eq_getElem hj]; rfl)⟩
theorem rd_but {H H' : Hp} {p a : Addr} {u : HO} (h : Rd H a u) (n : a ≠ p) (b : But p H H') : Rd H' a u := by
  rcases h with h | ⟨o, h⟩
  · exact .inl (b _ _ n h)
  · exact .inr ⟨o, b _ _ n h⟩
theorem RowsR.but {K : PySem.W.Frag} {G H H' : Hp} {rr p : Addr} {ns : List Str} {rws : List (List (Int × Str))} {kvs : List (Key × V)} (h : RowsR K G H rr ns rws kvs) (n : rr ≠ p) (g : G p = none) (b : But p H H') : RowsR K G H' rr ns rws kvs := ⟨rd_but h.rd n b, h.keys, h.dq, h.gr, same_but h.same g b⟩
theorem del_dq {K : PySem.W.Frag} {H : Hp} {p a : Addr} {xs : List V} {zp : List (Addr × Int × Str)} (hl : H p = some (.lst xs)) (h : H a = some (.tup (refs zp))) (hp : Kp H zp) : Dq K (del H p) (.ref a) (rowD (zp.map (·.2))) := by
  refine dq_mkrow (zp := zp) ?_ fun z hz => ?_
  · rw [del_ne (fun e => by rw [e, hl] at h; cases h)]; exact h
  · rw [del_ne (fun e => by have := hp z hz; rw [e, hl] at this; cases this)]; exact hp z hz
theorem valV_some {kvs : List (Key × V)} {k : Key} {v : V} (h : valV kvs k = some v) : k ∈ kvs.map (·.1) := by
  induction kvs with
  | nil => cases h
  | cons a r ih =>
    by_cases e : a.1 = k
    · rw [List.map_cons, e]; exact List.mem_cons_self
    · rw [valV_neg e] at h
      exact List.mem_cons_of_mem _ (ih h)
theorem valV_has {kvs : List (Key × V)} {k : Key} (h : k ∈ kvs.map (·.1)) : ∃ v, valV kvs k = some v := by
  induction kvs with
  | nil => cases h
  | cons a r ih =>
    by_cases e : a.1 = k
    · exact ⟨a.2, valV_pos e⟩
    · rw [valV_neg e]
      rw [List.map_cons] at h
      exact ih ((List.mem_cons.mp h).resolve_left fun z => e z.symm)
theorem putK_keys {kvs : List (Key × V)} {k : Key} {v : V} (h : k ∈ kvs.map (·.1)) : (putK kvs k v).map (·.1) = kvs.map (·.1) := by
  unfold putK
  rw [if_pos (by
    obtain ⟨a, h1, h2⟩ := List.mem_map.mp h
    exact List.any_eq_true.mpr ⟨a, h1, decide_eq_true h2⟩)]
  rw [List.map_map]
  refine List.map_congr_left fun a _ => ?_
  show (if _ then _ else _ : Key × V).1 = a.1
  split
  · rename_i e; first | rfl | exact e.symm
  · rfl
theorem scLWay : FnScope ["pen", "book", "ends", "name", "rows", "pairs", "spots", "here", "slow", "pair", "some"] ["pen", "book", "ends", "name"] (defScope sLWay) := ⟨rfl, rfl, rfl, by decide +kernel, rfl, by decide +kernel, by decide +kernel⟩
theorem ok_lway {f fT : Addr} {fd fdT : FuncData} (F : Fun K "_law_way" "_law_way" sLWay f fd) (T : TxY mg)
    (FT : Fun K "_law_take" "_law_take" sTake fT fdT) (GT : FnOk P w K mg base CX0 2 fT fdT ["pen", "many"] spTakeC) (bT : Binds K fdT ["pen", "many"] []) (gT : mg "_law_take" = some (.ref fT)) :
    FnOk P w K mg base CX0 3 f fd ["pen", "book", "ends", "name"] (spLWay K) := by
  refine F.ok scLWay (fun vs H Q E h => ?_) (fun cdv A outer s H vs Q E hr h => ?_)
  · obtain ⟨p, pc, bk, rr, la, x, b, ns, rws, kvs, L, t, G, rfl, _⟩ := h
    rfl
  · obtain ⟨p, pc, bk, rr, la, x, b, ns, rws, kvs, L, t, G, rfl, PC, ht, gp, RR, B, gb, hla, lp, LinNs, Lon, xin, k⟩ := h
    have hr2 := hr
    have hu1 := Nat.lt_trans (Nat.add_lt_add_left (show 1 < 64 by decide) _) hr.units
    refine ⟨_, (pss_cons (ps_set (i := 4) scLWay.nd rfl (Or.inl rfl) (pe_ix ix_tup (pv 1) pe_int (fun _ _ => rfl)))
      (pss_cons (ps_set (i := 5) scLWay.nd rfl (Or.inl rfl) (pe_lst pa_nil))
      (pss_cons (ps_set (i := 6) scLWay.nd rfl (Or.inl rfl) pe_dnewK)
      (pss_cons (ps_set (i := 7) scLWay.nd rfl (Or.inl rfl) (pv 3))
      (pss_cons (ps_set (i := 8) scLWay.nd rfl (Or.inl rfl) (pe_call GT hr2 (by rfl) gT FT.kp bT .nil pass0 (pa_cons (pv 0) (pa_cons pe_int pa_nil))))
      (pss_cons (ps_while PassesOwn.never (PW.pt (pw_or (pt_cmp (pc_dnotin hu1 (pv 7) (pv 6))) (pw_or1 (pt_cmpR op_gt (pv 8) pe_int (nomark _))))) (pss_cons (ps_set (i := 8) scLWay.nd rfl (Or.inl rfl) (pe_op op_sub (pv 8) (pe_callTy call_int1 (by rfl) T.int boot_int (pa_cons (pe_cmp (pc_din hu1 (pv 7) (pv 6))) pa_nil))))
      (pss_cons (ps_dput hu1 (pv 6) (pv 7) (pe_callB call_len_seq (by rfl) T.len PySem.boot_len (pa_cons (pv 5) pa_nil)) rfl)
      (pss_cons (ps_setLc (i := 10) (own := [("pair", 9)]) (g := gName 9) rfl scLWay.nd rfl (by rfl) (sw_true (by rfl) (by rfl) (by rfl) (by rfl)) (pi_tup (pe_dget hu1 (pv 4) (pv 7) (fun _ _ => rfl))) (blkOk_by (N := ["pen", "book", "ends", "name", "rows", "pairs", "spots", "here", "slow", "pair", "some"]) (sc := defScope sLWay) (by decide +kernel)) (fun _ _ _ _ _ => (pg_name (i := 9) scLWay.nd rfl (Or.inl rfl))) (fun _ _ _ _ _ => (pts_one (pt_cmpR (show OpR _ _ (rIn K false) from op_in_seq) (pe_ix (show IxR _ (rIxT K) from ix_tup) (pv 9) pe_int (fun _ _ => rfl)) (pv 2) (by rfl)))) (fun _ _ _ _ _ => (pv 9)))
      (pss_cons (ps_set (i := 9) scLWay.nd rfl (Or.inl rfl) (pe_ix ix_list (pv 10) (pe_call GT hr2 (by rfl) gT FT.kp bT .nil pass0 (pa_cons (pv 0) (pa_cons (pe_callB call_len_seq (by rfl) T.len PySem.boot_len (pa_cons (pv 10) pa_nil)) pa_nil))) (fun _ _ => rfl)))
      (pss_cons (ps_expr (pe_bm PySem.F.plainAttrs_list PySem.F.slot_list_append PySem.F.type_list_append mt_append (pv 5) (pa_cons (pv 9) pa_nil)))
      (pss_one (ps_set (i := 7) scLWay.nd rfl (Or.inl rfl) (pe_ix (show IxR _ (rIxT K) from ix_tup) (pv 9) pe_int (fun _ _ => rfl))))))))))
      (pss_one (ps_ret (pe_tup (pa_cons (pe_callTy call_tuple_of (by rfl) T.tuple boot_tuple (pa_cons (pe_slice sl_list (pv 5) po_none (po_some (pe_dget hu1 (pv 6) (pv 7) (fun _ _ => rfl)))) pa_nil)) (pa_cons (pe_callTy call_tuple_of (by rfl) T.tuple boot_tuple (pa_cons (pe_slice sl_list (pv 5) (po_some (pe_dget hu1 (pv 6) (pv 7) (fun _ _ => rfl))) po_none) pa_nil)) pa_nil))))))))))), ?_⟩
    have rrp : rr ≠ p := fun e => by
      obtain ⟨ys, hy⟩ : ∃ ys, H p = some (.lst ys) := (by obtain ⟨_, _, _, h, _⟩ := PC.ex; exact ⟨_, h⟩)
      rcases RR.rd with q | ⟨o, q⟩ <;> (rw [e, hy] at q; cases q)
    refine ⟨_, rfl, bk, _, 1, .ref rr, rfl, rfl, SqT.of (RR.same _ _ gb), atI_nat (j := 1) rfl, ?_⟩
    refine ⟨by decide, fun pl npl => ?_⟩
    intro sd nsd
    have psd : pl ≠ sd := ne_of_none upd_same nsd
    have s0 : Same H (upd (upd H pl (.lst [])) sd (.dK [])) := (Same.upd npl).trans (Same.upd nsd)
    have plp : pl ≠ p := pen_not PC.any npl
    have sdp : sd ≠ p := pen_not (PC.same (Same.upd (o := .lst []) npl) (Nat.le_refl _)).any nsd
    have nsd0 : H sd = none := (Same.upd (o := .lst []) npl).free nsd
    refine ⟨_, rfl, ?_⟩
    refine ⟨_, rfl, p, pc, 4, t, rfl, by decide, by decide, PC.same s0 (Nat.le_refl _), by omega, fun m H1 m0 m1 b1 P1 => ?_⟩
    have b01 : But p H H1 := (But.of s0).trans b1
    obtain ⟨c, rfl⟩ : ∃ c : Nat, m = (c : Int) := ⟨m.toNat, by omega⟩
    refine while_by (fun σ H2 => ∃ (c : Nat) (zp : List (Addr × Int × Str)) (kv2 : List (Key × V)) (ks : List Str) (y9 y10 : Option V), σ = [some (.ref p), some (.ref bk), some (.ref la), some (.str x), some (.ref rr), some (.ref pl), some (.ref sd), some (.str (endOf x (zp.map (·.2)))), some (.int (c : Int)), y9, y10] ∧
      But p H H2 ∧ PenC H2 p pc (t + 1 + zp.length) ∧ H2 pl = some (.lst (refs zp)) ∧ Kp H2 zp ∧ H2 sd = some (.dK kv2) ∧ kv2.map (·.1) = ks.map Sum.inr ∧ ks.Nodup ∧ (∀ y ∈ ks, y ∈ ns) ∧ zp.length + (8 - ks.length) + c ≤ 11 ∧
      Path (rowAt ns rws) x (zp.map (·.2)) ∧ endOf x (zp.map (·.2)) ∈ L ∧ ∀ y v, valV kv2 (Sum.inr y) = some v → ∃ i : Nat, v = .int (i : Int) ∧ i < zp.length ∧ endOf x ((zp.map (·.2)).take i) = y)
      (fun σ H2 => match σ with | [_, _, _, _, _, _, _, _, some (.int c), _, _] => (match H2 sd with | some (.dK kv) => (9 - kv.length) + c.toNat | _ => 0) | _ => 0) ?_ ?_ (fun σ H4 Q1 Q2 m h => ?_)
    · refine ⟨c, [], [], [], _, _, rfl, b01, P1, b1 _ _ plp (by rw [upd_ne psd]; exact upd_same), (fun _ h => nomatch h), b1 _ _ sdp upd_same, rfl, List.nodup_nil, (fun _ h => nomatch h), by simp; omega, trivial, xin, fun y v h => nomatch h⟩
    · rintro σ H2 ⟨c, zp, kv2, ks, y9, y10, rfl, b2, P2, hpl, hzp, hsd, hks, knod, kns, bnd, path, here, spot⟩
      obtain ⟨y, hy⟩ : ∃ y, y = endOf x (zp.map (·.2)) := ⟨_, rfl⟩
      rw [← hy] at here ⊢
      have lks : ks.length ≤ 8 := Nat.le_trans (nod_len knod kns) B.n8
      have lkv : kv2.length = ks.length := by have := congrArg List.length hks; rwa [List.length_map, List.length_map] at this
      have RR2 := RR.but rrp gp b2
      have isin : ∀ v, valV kv2 (Sum.inr y) = some v → y ∈ ks := fun v h => by
        have := valV_some h
        rw [hks] at this
        obtain ⟨z, h1, h2⟩ := List.mem_map.mp this
        rw [← Sum.inr.inj h2]; exact h1
      have isnot : valV kv2 (Sum.inr y) = none → y ∉ ks := fun h z => by
        obtain ⟨v, hv⟩ := valV_has (kvs := kv2) (k := Sum.inr y) (by rw [hks]; exact List.mem_map.mpr ⟨y, z, rfl⟩)
        rw [h] at hv; cases hv
      have yns := LinNs y here
      have plpc : pl ≠ pc := fun e => PC.at_c (by rw [← e]; exact npl)
      have sdpc : sd ≠ pc := fun e => PC.at_c (by rw [← e]; exact nsd0)
      have rrsd : rr ≠ sd := fun e => rd_there RR.rd (by rw [e]; exact nsd0)
      have gsd : G sd = none := RR.same.free nsd0
      have hla2 := b2 _ _ lp hla
      have lasd : la ≠ sd := ne_of_none hla nsd0
      refine ⟨_, rfl, _, rfl, sd, _, rfl, DGet.k (k := Sum.inr y) hsd, _, rfl, ?_⟩
      cases ev : valV kv2 (Sum.inr y : Key) with
      | none =>
        refine ifT rfl ?_
        have dgv : DGet H2 sd (.str y) none := by rw [← ev]; exact DGet.k (k := Sum.inr y) hsd
        refine ⟨_, rfl, _, rfl, _, rfl, sd, _, rfl, dgv, .inr ⟨_, rfl, _, _, rfl, rfl, ?_⟩⟩
        refine ⟨_, rfl, pl, _, rfl, .inl (SqL.of hpl), _, rfl, _, rfl, sd, _, rfl, DPut.k (k := Sum.inr y) hsd (small1000000 (by omega)), ?_⟩
        obtain ⟨kv3, hkv3⟩ : ∃ kv3, kv3 = putK kv2 (Sum.inr y) (.int ((refs zp).length : Int)) := ⟨_, rfl⟩
        rw [← hkv3]
        have b3 : But sd H2 (upd H2 sd (.dK kv3)) := But.upd
        have RR3 := RR2.but rrsd gsd b3
        have P3 : PenC (upd H2 sd (.dK kv3)) p pc (t + 1 + zp.length) := P2.upd sdp sdpc (Nat.le_refl _) _
        have hla3 : (upd H2 sd (.dK kv3)) la = some (.lst (L.map V.str)) := by rw [upd_ne lasd]; exact hla2
        obtain ⟨v', dg, dq⟩ := RR3.row yns
        obtain ⟨ra, as, rfl, gra, las, gas⟩ := dq_row dq
        refine ⟨_, rfl, _, rfl, rr, _, rfl, dg, ra, rfl, ⟨_, SqT.of (RR3.same _ _ gra)⟩, fun D nD => ?_⟩
        refine lc_it (walk_tup (K := K) (a := ra) (xs := as)) (fun j Hi => Same (upd H2 sd (.dK kv3)) Hi ∧ ∃ zq : List (Addr × Int × Str), Hi D = some (.lst (refs zq)) ∧ Kp Hi zq ∧ (∀ z ∈ zq, z.2 ∈ rowAt ns rws y ∧ z.2.2 ∈ L) ∧ zq.length ≤ j ∧ ∀ q ∈ (rowAt ns rws y).take j, q.2 ∈ L → zq ≠ [])
          ⟨Same.upd nD, [], upd_same, (fun _ h => nomatch h), (fun _ h => nomatch h), Nat.le_refl _, (fun _ h => nomatch h)⟩ (fun j Hi _ q => SqT.of (q.1 _ _ (RR3.same _ _ gra))) ?_ ?_
        · rintro j r Hi Hj hj ⟨si, zq, hD, hq, hin, hlen, hne⟩ ⟨rfl, hr'⟩
          have hj2 : j < (rowAt ns rws y).length := by omega
          obtain ⟨cq, hc, gc⟩ := gas j _ (List.getElem?_eq_getElem hj2)
          obtain rfl : r = .ref cq := Option.some.inj (hr'.symm.trans hc)
          have tk2 : (rowAt ns rws y).take (j + 1) = (rowAt ns rws y).take j ++ [(rowAt ns rws y)[j]] := by rw [List.take_add_one, List.getElem?_eq_getElem hj2]; rfl
          rw [tk2]
          have qrow := List.getElem_mem hj2
          have r12 := rowAt_len B y
          generalize (rowAt ns rws y)[j] = q at gc tk2 qrow ⊢
          have hcq := si _ _ (RR3.same _ _ gc)
          refine ⟨rfl, ?_⟩
          refine ⟨_, rfl, cq, _, 1, .str q.2, rfl, rfl, SqT.of hcq, atI_nat (j := 1) rfl, _, rfl, la, _, rfl, .inl (SqL.of (si _ _ hla3)), rfl, flat_strs _, _, rfl, ?_⟩
          by_cases c2 : q.2 ∈ L
          · refine ifT (by show inV (.str q.2) (L.map V.str) = true; rw [inV_str]; exact decide_eq_true c2) ?_
            refine ⟨_, rfl, _, hD, by unfold refs; rw [List.length_map, sizeLine_eq]; omega, fun c' o hc' => ?_, zq ++ [(cq, q)], ?_, fun z hz => ?_, fun z hz => ?_, by rw [List.length_append, List.length_singleton]; omega, fun _ _ _ e => by simp at e⟩
            · rw [upd_ne (ne_of_none hc' nD)]; exact si c' o hc'
            · rw [upd_same, refs_app]; rfl
            · have nd : ∀ xs, Hj z.1 = some (.tup xs) → z.1 ≠ D := fun xs h e => by rw [e, hD] at h; cases h
              rcases List.mem_append.mp hz with h | h
              · rw [upd_ne (nd _ (hq z h))]; exact hq z h
              · have e := List.mem_singleton.mp h
                subst e
                rw [upd_ne (nd _ hcq)]; exact hcq
            · rcases List.mem_append.mp hz with h | h
              · exact hin z h
              · rw [List.mem_singleton.mp h]; exact ⟨qrow, c2⟩
          · refine ifF (by show inV (.str q.2) (L.map V.str) = false; rw [inV_str]; exact decide_eq_false c2) ?_
            refine ⟨si, zq, hD, hq, hin, by omega, fun q' hq' hL => ?_⟩
            rcases List.mem_append.mp hq' with h | h
            · exact hne q' h hL
            · rw [List.mem_singleton.mp h] at hL; exact absurd hL c2
        · rintro Hi ⟨si, zq, hD, hq, hin, hlen, hne⟩
          rw [las, List.take_length] at hne
          obtain ⟨q0, hq0, hq0L⟩ := Lon y here
          have zne := hne q0 hq0 hq0L
          have r12 := rowAt_len B y
          have zl : 0 < zq.length := List.length_pos_iff.mpr zne
          have Pi := P3.same si (Nat.le_refl _)
          have Dp : D ≠ p := pen_not P3.any nD
          have lrf : (refs zq).length = zq.length := List.length_map ..
          refine ⟨_, rfl, _, rfl, _, rfl, D, _, rfl, .inl (SqL.of hD), p, pc, _, _, rfl, by rw [lrf]; omega, by rw [lrf]; exact small_nat (by omega), Pi, by omega, fun m H5 m0 m1 b5 P5 => ?_⟩
          rw [lrf] at m1
          obtain ⟨z, hzq, hat⟩ := ref_at m0 m1
          obtain ⟨zrow, zL⟩ := hin z hzq
          refine ⟨D, _, m, .ref z.1, rfl, rfl, SqL.of (b5 _ _ Dp hD), hat, ?_⟩
          have b25 : ∀ c o, c ≠ p → c ≠ sd → H2 c = some o → H5 c = some o := fun c o n1 n2 h => b5 _ _ n1 (si _ _ (by rw [upd_ne n2]; exact h))
          have hpl5 := b25 _ _ plp psd hpl
          have hsd5 : H5 sd = some (.dK kv3) := b5 _ _ sdp (si _ _ upd_same)
          have hz5 : H5 z.1 = some (.tup (pv2 z.2)) := by
            have h1 := hq z hzq
            exact b5 _ _ (fun e => by obtain ⟨_, _, _, h2, _⟩ := Pi.ex; rw [e, h2] at h1; cases h1) h1
          refine ⟨_, rfl, .inl ⟨rfl, _, SqL.of hpl5⟩, _, rfl, pl, _, _, rfl, rfl, hpl5, by unfold refs; rw [List.length_map, sizeLine_eq]; omega, ?_⟩
          have npl6 : ∀ c xs, H5 c = some (.tup xs) → c ≠ pl := fun c xs h e => by rw [e, hpl5] at h; cases h
          have tr : ((zp ++ [z]).map (·.2)) = zp.map (·.2) ++ [z.2] := List.map_append
          have lzm : (zp.map (·.2)).length = zp.length := List.length_map ..
          refine ⟨_, rfl, z.1, _, 1, .str z.2.2, rfl, rfl, SqT.of (by rw [upd_ne (npl6 _ _ hz5)]; exact hz5), atI_nat (j := 1) rfl, ⟨c, zp ++ [z], kv3, ks ++ [y], some (.ref z.1), some (.ref D), ?_, ?_, ?_, ?_, ?_, ?_, ?_, ?_, ?_, ?_, ?_, ?_, ?_⟩, ?_⟩
          · rw [tr, endOf_app]
            show _ = [_, _, _, _, _, _, _, some (V.str z.2.2), some (V.int (c : Int)), _, _]
            rw [← Int.sub_zero (c : Int)]; rfl
          · intro c o n1 hc
            have h2 := b2 c o n1 hc
            rw [upd_ne (ne_of_none hc npl)]
            exact b25 _ _ n1 (ne_of_none hc nsd0) h2
          · exact (P5.upd plp plpc (by rw [List.length_append, List.length_singleton]; omega) _)
          · rw [upd_same, refs_app]; rfl
          · intro z' hz'
            have h5 : H5 z'.1 = some (.tup (pv2 z'.2)) := by
              rcases List.mem_append.mp hz' with h | h
              · have h1 := hzp z' h
                exact b25 _ _ (fun e => by obtain ⟨_, _, _, h2, _⟩ := P2.ex; rw [e, h2] at h1; cases h1) (fun e => by rw [e, hsd] at h1; cases h1) h1
              · rw [List.mem_singleton.mp h]; exact hz5
            rw [upd_ne (npl6 _ _ h5)]; exact h5
          · rw [upd_ne psd.symm]; exact hsd5
          · rw [hkv3, put_new hks (isnot ev), List.map_append, hks, List.map_append]; rfl
          · exact nod_snoc knod (isnot ev)
          · intro z' hz'
            rcases List.mem_append.mp hz' with h | h
            · exact kns z' h
            · rw [List.mem_singleton.mp h]; exact yns
          · rw [List.length_append, List.length_append, List.length_singleton, List.length_singleton]
            have : ks.length < 8 := by
              have h1 := nod_len (nod_snoc knod (isnot ev)) (F := ks ++ [y]) (ns := ns) (fun z' hz' => by
                rcases List.mem_append.mp hz' with h | h
                · exact kns z' h
                · rw [List.mem_singleton.mp h]; exact yns)
              rw [List.length_append, List.length_singleton] at h1
              have := B.n8
              omega
            omega
          · rw [tr, path_app]
            refine ⟨path, ?_, trivial⟩
            rw [← hy]; exact zrow
          · rw [tr, endOf_app]; exact zL
          · intro y' w' h'
            rw [hkv3, valV_put] at h'
            by_cases e : (Sum.inr y' : Key) = Sum.inr y
            · rw [if_pos e] at h'
              obtain rfl := Option.some.inj h'
              refine ⟨zp.length, by show V.int ((refs zp).length : Int) = _; unfold refs; rw [List.length_map], by rw [List.length_append, List.length_singleton]; omega, ?_⟩
              rw [tr, List.take_left' lzm, Sum.inr.inj e, hy]
            · rw [if_neg e] at h'
              obtain ⟨i, h1, h2, h3⟩ := spot y' w' h'
              refine ⟨i, h1, by rw [List.length_append, List.length_singleton]; omega, ?_⟩
              rw [tr, List.take_append_of_le_length (by omega)]; exact h3
          · show (match (upd H5 pl (.lst (refs zp ++ [V.ref z.1]))) sd with | some (.dK kv) => (9 - kv.length) + ((c : Int) - 0).toNat | _ => 0) < (match H2 sd with | some (.dK kv) => (9 - kv.length) + (c : Int).toNat | _ => 0)
            rw [upd_ne psd.symm, hsd5, hsd]
            show (9 - kv3.length) + ((c : Int) - 0).toNat < (9 - kv2.length) + (c : Int).toNat
            rw [hkv3, put_new hks (isnot ev), List.length_append, List.length_singleton]
            omega
      | some v =>
        refine ifF rfl ?_
        refine ⟨_, rfl, _, _, rfl, rfl, _, rfl, ?_⟩
        by_cases hc : (0 : Int) < (c : Int)
        · refine ifT (decide_eq_true hc) ?_
          have dgv : DGet H2 sd (.str y) (some v) := by rw [← ev]; exact DGet.k (k := Sum.inr y) hsd
          refine ⟨_, rfl, _, rfl, _, rfl, sd, _, rfl, dgv, .inr ⟨_, rfl, _, _, rfl, rfl, ?_⟩⟩
          refine ⟨_, rfl, pl, _, rfl, .inl (SqL.of hpl), _, rfl, _, rfl, sd, _, rfl, DPut.k (k := Sum.inr y) hsd (small1000000 (by omega)), ?_⟩
          obtain ⟨kv3, hkv3⟩ : ∃ kv3, kv3 = putK kv2 (Sum.inr y) (.int ((refs zp).length : Int)) := ⟨_, rfl⟩
          rw [← hkv3]
          have b3 : But sd H2 (upd H2 sd (.dK kv3)) := But.upd
          have RR3 := RR2.but rrsd gsd b3
          have P3 : PenC (upd H2 sd (.dK kv3)) p pc (t + 1 + zp.length) := P2.upd sdp sdpc (Nat.le_refl _) _
          have hla3 : (upd H2 sd (.dK kv3)) la = some (.lst (L.map V.str)) := by rw [upd_ne lasd]; exact hla2
          obtain ⟨v', dg, dq⟩ := RR3.row yns
          obtain ⟨ra, as, rfl, gra, las, gas⟩ := dq_row dq
          refine ⟨_, rfl, _, rfl, rr, _, rfl, dg, ra, rfl, ⟨_, SqT.of (RR3.same _ _ gra)⟩, fun D nD => ?_⟩
          refine lc_it (walk_tup (K := K) (a := ra) (xs := as)) (fun j Hi => Same (upd H2 sd (.dK kv3)) Hi ∧ ∃ zq : List (Addr × Int × Str), Hi D = some (.lst (refs zq)) ∧ Kp Hi zq ∧ (∀ z ∈ zq, z.2 ∈ rowAt ns rws y ∧ z.2.2 ∈ L) ∧ zq.length ≤ j ∧ ∀ q ∈ (rowAt ns rws y).take j, q.2 ∈ L → zq ≠ [])
            ⟨Same.upd nD, [], upd_same, (fun _ h => nomatch h), (fun _ h => nomatch h), Nat.le_refl _, (fun _ h => nomatch h)⟩ (fun j Hi _ q => SqT.of (q.1 _ _ (RR3.same _ _ gra))) ?_ ?_
          · rintro j r Hi Hj hj ⟨si, zq, hD, hq, hin, hlen, hne⟩ ⟨rfl, hr'⟩
            have hj2 : j < (rowAt ns rws y).length := by omega
            obtain ⟨cq, hc, gc⟩ := gas j _ (List.getElem?_eq_getElem hj2)
            obtain rfl : r = .ref cq := Option.some.inj (hr'.symm.trans hc)
            have tk2 : (rowAt ns rws y).take (j + 1) = (rowAt ns rws y).take j ++ [(rowAt ns rws y)[j]] := by rw [List.take_add_one, List.getElem?_eq_getElem hj2]; rfl
            rw [tk2]
            have qrow := List.getElem_mem hj2
            have r12 := rowAt_len B y
            generalize (rowAt ns rws y)[j] = q at gc tk2 qrow ⊢
            have hcq := si _ _ (RR3.same _ _ gc)
            refine ⟨rfl, ?_⟩
            refine ⟨_, rfl, cq, _, 1, .str q.2, rfl, rfl, SqT.of hcq, atI_nat (j := 1) rfl, _, rfl, la, _, rfl, .inl (SqL.of (si _ _ hla3)), rfl, flat_strs _, _, rfl, ?_⟩
            by_cases c2 : q.2 ∈ L
            · refine ifT (by show inV (.str q.2) (L.map V.str) = true; rw [inV_str]; exact decide_eq_true c2) ?_
              refine ⟨_, rfl, _, hD, by unfold refs; rw [List.length_map, sizeLine_eq]; omega, fun c' o hc' => ?_, zq ++ [(cq, q)], ?_, fun z hz => ?_, fun z hz => ?_, by rw [List.length_append, List.length_singleton]; omega, fun _ _ _ e => by simp at e⟩
              · rw [upd_ne (ne_of_none hc' nD)]; exact si c' o hc'
              · rw [upd_same, refs_app]; rfl
              · have nd : ∀ xs, Hj z.1 = some (.tup xs) → z.1 ≠ D := fun xs h e => by rw [e, hD] at h; cases h
                rcases List.mem_append.mp hz with h | h
                · rw [upd_ne (nd _ (hq z h))]; exact hq z h
                · have e := List.mem_singleton.mp h
                  subst e
                  rw [upd_ne (nd _ hcq)]; exact hcq
              · rcases List.mem_append.mp hz with h | h
                · exact hin z h
                · rw [List.mem_singleton.mp h]; exact ⟨qrow, c2⟩
            · refine ifF (by show inV (.str q.2) (L.map V.str) = false; rw [inV_str]; exact decide_eq_false c2) ?_
              refine ⟨si, zq, hD, hq, hin, by omega, fun q' hq' hL => ?_⟩
              rcases List.mem_append.mp hq' with h | h
              · exact hne q' h hL
              · rw [List.mem_singleton.mp h] at hL; exact absurd hL c2
          · rintro Hi ⟨si, zq, hD, hq, hin, hlen, hne⟩
            rw [las, List.take_length] at hne
            obtain ⟨q0, hq0, hq0L⟩ := Lon y here
            have zne := hne q0 hq0 hq0L
            have r12 := rowAt_len B y
            have zl : 0 < zq.length := List.length_pos_iff.mpr zne
            have Pi := P3.same si (Nat.le_refl _)
            have Dp : D ≠ p := pen_not P3.any nD
            have lrf : (refs zq).length = zq.length := List.length_map ..
            refine ⟨_, rfl, _, rfl, _, rfl, D, _, rfl, .inl (SqL.of hD), p, pc, _, _, rfl, by rw [lrf]; omega, by rw [lrf]; exact small_nat (by omega), Pi, by omega, fun m H5 m0 m1 b5 P5 => ?_⟩
            rw [lrf] at m1
            obtain ⟨z, hzq, hat⟩ := ref_at m0 m1
            obtain ⟨zrow, zL⟩ := hin z hzq
            refine ⟨D, _, m, .ref z.1, rfl, rfl, SqL.of (b5 _ _ Dp hD), hat, ?_⟩
            have b25 : ∀ c o, c ≠ p → c ≠ sd → H2 c = some o → H5 c = some o := fun c o n1 n2 h => b5 _ _ n1 (si _ _ (by rw [upd_ne n2]; exact h))
            have hpl5 := b25 _ _ plp psd hpl
            have hsd5 : H5 sd = some (.dK kv3) := b5 _ _ sdp (si _ _ upd_same)
            have hz5 : H5 z.1 = some (.tup (pv2 z.2)) := by
              have h1 := hq z hzq
              exact b5 _ _ (fun e => by obtain ⟨_, _, _, h2, _⟩ := Pi.ex; rw [e, h2] at h1; cases h1) h1
            refine ⟨_, rfl, .inl ⟨rfl, _, SqL.of hpl5⟩, _, rfl, pl, _, _, rfl, rfl, hpl5, by unfold refs; rw [List.length_map, sizeLine_eq]; omega, ?_⟩
            have npl6 : ∀ c xs, H5 c = some (.tup xs) → c ≠ pl := fun c xs h e => by rw [e, hpl5] at h; cases h
            have tr : ((zp ++ [z]).map (·.2)) = zp.map (·.2) ++ [z.2] := List.map_append
            have lzm : (zp.map (·.2)).length = zp.length := List.length_map ..
            refine ⟨_, rfl, z.1, _, 1, .str z.2.2, rfl, rfl, SqT.of (by rw [upd_ne (npl6 _ _ hz5)]; exact hz5), atI_nat (j := 1) rfl, ⟨c - 1, zp ++ [z], kv3, ks, some (.ref z.1), some (.ref D), ?_, ?_, ?_, ?_, ?_, ?_, ?_, ?_, ?_, ?_, ?_, ?_, ?_⟩, ?_⟩
            · rw [tr, endOf_app]
              show _ = [_, _, _, _, _, _, _, some (V.str z.2.2), some (V.int ((c - 1 : Nat) : Int)), _, _]
              rw [show ((c - 1 : Nat) : Int) = (c : Int) - 1 by omega]; rfl
            · intro c o n1 hc
              have h2 := b2 c o n1 hc
              rw [upd_ne (ne_of_none hc npl)]
              exact b25 _ _ n1 (ne_of_none hc nsd0) h2
            · exact (P5.upd plp plpc (by rw [List.length_append, List.length_singleton]; omega) _)
            · rw [upd_same, refs_app]; rfl
            · intro z' hz'
              have h5 : H5 z'.1 = some (.tup (pv2 z'.2)) := by
                rcases List.mem_append.mp hz' with h | h
                · have h1 := hzp z' h
                  exact b25 _ _ (fun e => by obtain ⟨_, _, _, h2, _⟩ := P2.ex; rw [e, h2] at h1; cases h1) (fun e => by rw [e, hsd] at h1; cases h1) h1
                · rw [List.mem_singleton.mp h]; exact hz5
              rw [upd_ne (npl6 _ _ h5)]; exact h5
            · rw [upd_ne psd.symm]; exact hsd5
            · rw [hkv3, putK_keys (by rw [hks]; exact List.mem_map.mpr ⟨y, isin _ ev, rfl⟩), hks]
            · exact knod
            · exact kns
            · rw [List.length_append, List.length_singleton]; omega
            · rw [tr, path_app]
              refine ⟨path, ?_, trivial⟩
              rw [← hy]; exact zrow
            · rw [tr, endOf_app]; exact zL
            · intro y' w' h'
              rw [hkv3, valV_put] at h'
              by_cases e : (Sum.inr y' : Key) = Sum.inr y
              · rw [if_pos e] at h'
                obtain rfl := Option.some.inj h'
                refine ⟨zp.length, by show V.int ((refs zp).length : Int) = _; unfold refs; rw [List.length_map], by rw [List.length_append, List.length_singleton]; omega, ?_⟩
                rw [tr, List.take_left' lzm, Sum.inr.inj e, hy]
              · rw [if_neg e] at h'
                obtain ⟨i, h1, h2, h3⟩ := spot y' w' h'
                refine ⟨i, h1, by rw [List.length_append, List.length_singleton]; omega, ?_⟩
                rw [tr, List.take_append_of_le_length (by omega)]; exact h3
            · show (match (upd H5 pl (.lst (refs zp ++ [V.ref z.1]))) sd with | some (.dK kv) => (9 - kv.length) + ((c : Int) - 1).toNat | _ => 0) < (match H2 sd with | some (.dK kv) => (9 - kv.length) + (c : Int).toNat | _ => 0)
              rw [upd_ne psd.symm, hsd5, hsd]
              show (9 - kv3.length) + ((c : Int) - 1).toNat < (9 - kv2.length) + (c : Int).toNat
              have l3 : kv3.length = kv2.length := by
                have := congrArg List.length (putK_keys (v := .int ((refs zp).length : Int)) (kvs := kv2) (k := Sum.inr y) (by rw [hks]; exact List.mem_map.mpr ⟨y, isin _ ev, rfl⟩))
                rw [← hkv3, List.length_map, List.length_map] at this
                exact this
              omega
        · refine ifF (decide_eq_false hc) ?_
          obtain ⟨i, rfl, hi, hend⟩ := spot y v ev
          have dget : DGet H2 sd (.str y) (some (.int (i : Int))) := by rw [← ev]; exact DGet.k (k := Sum.inr y) hsd
          refine ⟨_, rfl, _, rfl, _, rfl, sd, _, rfl, dget, (i : Int), rfl, pl, _, rfl, SqL.of hpl, fun w1 nw1 => ?_⟩
          rw [show cutV (refs zp) none (some (i : Int)) = refs (zp.take i) from (cutV_take _ i).trans List.map_take.symm]
          have a1 : Same H2 (upd H2 w1 (.lst (refs (zp.take i)))) := Same.upd nw1
          refine ⟨w1, _, rfl, .inl ⟨SqL.of upd_same, fun t1 nt1 => ?_⟩⟩
          have a2 := a1.trans (Same.upd (o := .tup (refs (zp.take i))) nt1)
          have dget2 : DGet (upd (upd H2 w1 (.lst (refs (zp.take i)))) t1 (.tup (refs (zp.take i)))) sd (.str y) (some (.int (i : Int))) := by rw [← ev]; exact DGet.k (k := Sum.inr y) (a2 _ _ hsd)
          refine ⟨_, rfl, _, rfl, _, rfl, sd, _, rfl, dget2, (i : Int), rfl, pl, _, rfl, SqL.of (a2 _ _ hpl), fun w2 nw2 => ?_⟩
          rw [show cutV (refs zp) (some (i : Int)) none = refs (zp.drop i) from (cutV_drop _ i).trans List.map_drop.symm]
          have a3 := a2.trans (Same.upd (o := .lst (refs (zp.drop i))) nw2)
          refine ⟨w2, _, rfl, .inl ⟨SqL.of upd_same, fun t2 nt2 => ?_⟩⟩
          have a4 := a3.trans (Same.upd (o := .tup (refs (zp.drop i))) nt2)
          refine ⟨(by show 2 ≤ sizeLine; decide), fun r nr => ?_⟩
          have a5 := a4.trans (Same.upd (o := .tup [.ref t1, .ref t2]) nr)
          have f24 : Same (upd (upd H2 w1 (.lst (refs (zp.take i)))) t1 (.tup (refs (zp.take i)))) (upd (upd (upd (upd (upd H2 w1 (.lst (refs (zp.take i)))) t1 (.tup (refs (zp.take i)))) w2 (.lst (refs (zp.drop i)))) t2 (.tup (refs (zp.drop i)))) r (.tup [.ref t1, .ref t2])) := ((Same.upd nw2).trans (Same.upd nt2)).trans (Same.upd nr)
          obtain ⟨ys, hys⟩ : ∃ ys, H2 p = some (.lst ys) := by obtain ⟨_, _, _, h, _⟩ := P2.ex; exact ⟨_, h⟩
          have hpF := a5 _ _ hys
          have kp5 := hzp.same a5
          have q1 := del_dq (K := K) hpF (f24 _ _ upd_same) (zp := zp.take i) (fun z hz => kp5 z (List.mem_of_mem_take hz))
          have q2 := del_dq (K := K) hpF ((Same.upd (o := .tup [.ref t1, .ref t2]) nr) _ _ upd_same) (zp := zp.drop i) (fun z hz => kp5 z (List.mem_of_mem_drop hz))
          have spl : (zp.take i).map (·.2) ++ (zp.drop i).map (·.2) = zp.map (·.2) := by rw [← List.map_append, List.take_append_drop]
          refine k r _ _ _ (b2.trans (But.of a5)) ((P2.same a5 (Nat.le_refl _)).same (Same.refl _) (by omega)) (.tup ?_ (.cons q1 (.cons q2 .nil))) ?_ ?_ ?_ ?_
          · rw [del_ne (fun e => by rw [e] at nr; have := a4 _ _ hys; rw [nr] at this; cases this)]; exact upd_same
          · rw [spl]; exact path
          · rw [spl, ← hy, List.map_take]; exact hend.symm
          · intro e
            have := congrArg List.length e
            rw [List.length_map, List.length_drop, List.length_nil] at this
            omega
          · rw [List.length_map, List.length_map, List.length_take, List.length_drop]; omega
    · obtain ⟨v, e1, v2, e2, sd', o, e3, dg, u, e4, h⟩ := h
      refine ⟨v, e1, v2, e2, sd', o, e3, dg, u, e4, ?_⟩
      dsimp only at h ⊢
      by_cases hk : u = true
      · rw [if_pos hk] at h ⊢
        exact m _ _ h
      · rw [if_neg hk] at h ⊢
        obtain ⟨v3, e5, i', j', e6, e7, u2, e8, h2⟩ := h
        exact ⟨v3, e5, i', j', e6, e7, u2, e8, m _ _ h2⟩
end
end My

set_option linter.all false
namespace My
open PySem PySem.Spec PyProof.Rows L2
/-! ### names at places -/
def ek (e : Str × Nat) : List Key := [Sum.inr e.1, Sum.inl (e.2 : Int)]
def tks (es : List (Str × Nat)) : List (List Key × V) := es.map fun e => (ek e, .bl true)
theorem ek_inj {a b : Str × Nat} (h : ek a = ek b) : a = b := by
  obtain ⟨x, i⟩ := a
  obtain ⟨y, j⟩ := b
  have h1 := List.cons.inj h
  have h2 := List.cons.inj h1.2
  have e1 : x = y := Sum.inr.inj h1.1
  have e2 : (i : Int) = j := Sum.inl.inj h2.1
  rw [e1, show i = j by omega]
theorem tks_val (es : List (Str × Nat)) (e : Str × Nat) : valV (tks es) (ek e) = if e ∈ es then some (.bl true) else none := by
  induction es with
  | nil => rfl
  | cons a r ih =>
    by_cases h : a = e
    · subst h
      rw [if_pos List.mem_cons_self]
      exact valV_pos rfl
    · have h1 : valV (tks (a :: r)) (ek e) = valV (tks r) (ek e) := valV_neg (p := (ek a, V.bl true)) (fun z => h (ek_inj z))
      rw [h1, ih]
      by_cases m : e ∈ r
      · rw [if_pos m, if_pos (List.mem_cons_of_mem _ m)]
      · rw [if_neg m, if_neg (fun z => (List.mem_cons.mp z).elim (fun q => h q.symm) m)]
theorem tks_put {es : List (Str × Nat)} {e : Str × Nat} (h : e ∉ es) : putK (tks es) (ek e) (.bl true) = tks (es ++ [e]) := by
  rw [putK_new _ (by rw [tks_val, if_neg h])]
  unfold tks
  rw [List.map_append]; rfl
def allE (ns : List Str) (n : Nat) : List (Str × Nat) := ns.flatMap fun y => (List.range n).map fun i => (y, i)
theorem allE_mem {ns : List Str} {n : Nat} {e : Str × Nat} : e ∈ allE ns n ↔ e.1 ∈ ns ∧ e.2 < n := by
  unfold allE
  rw [List.mem_flatMap]
  constructor
  · rintro ⟨y, hy, h⟩
    obtain ⟨i, hi, rfl⟩ := List.mem_map.mp h
    exact ⟨hy, List.mem_range.mp hi⟩
  · rintro ⟨h1, h2⟩
    exact ⟨e.1, h1, List.mem_map.mpr ⟨e.2, List.mem_range.mpr h2, rfl⟩⟩
theorem allE_len (ns : List Str) (n : Nat) : (allE ns n).length = ns.length * n := by
  induction ns with
  | nil => simp [allE]
  | cons y r ih =>
    unfold allE at ih ⊢
    rw [List.flatMap_cons, List.length_append, ih, List.length_map, List.length_range, List.length_cons, Nat.succ_mul, Nat.add_comm]
theorem nod_map {α β : Type} {g : α → β} {l : List α} (hi : ∀ a b, g a = g b → a = b) (h : l.Nodup) : (l.map g).Nodup := List.pairwise_map.mpr (h.imp fun n e => n (hi _ _ e))
theorem allE_nod {ns : List Str} {n : Nat} (h : ns.Nodup) : (allE ns n).Nodup := by
  induction ns with
  | nil => exact List.nodup_nil
  | cons y r ih =>
    obtain ⟨h1, h2⟩ := List.nodup_cons.mp h
    have e : allE (y :: r) n = ((List.range n).map fun i => (y, i)) ++ allE r n := by unfold allE; rw [List.flatMap_cons]
    rw [e]
    refine List.nodup_append.mpr ⟨nod_map (fun a b z => (Prod.mk.inj z).2) List.nodup_range, ih h2, fun a ha b hb z => ?_⟩
    obtain ⟨i, _, rfl⟩ := List.mem_map.mp ha
    have := (allE_mem.mp hb).1
    rw [← z] at this
    exact h1 this
theorem take_newG {α : Type} {l : List α} (h : l.Nodup) {i : Nat} {x : α} (hx : l[i]? = some x) : x ∉ l.take i := by
  intro z
  obtain ⟨j, hj⟩ := List.mem_iff_getElem?.mp z
  rw [List.getElem?_take] at hj
  by_cases c : j < i
  · rw [if_pos c] at hj
    have hi : i < l.length := (List.getElem?_eq_some_iff.mp hx).1
    have := (List.getElem?_inj (by omega) h).mp (hj.trans hx.symm)
    omega
  · rw [if_neg c] at hj; cases hj
/-- onward from a place -/
def onw (n s i : Nat) : Nat := if i + 1 < n then i + 1 else s
/-- goes on from there -/
def stepE (ns : List Str) (rws : List (List (Int × Str))) (Wh : List Int) (s : Nat) (es : List (Str × Nat)) (e : Str × Nat) : Bool :=
  (rowAt ns rws e.1).any fun q => decide (some q.1 = Wh[e.2]?) && decide ((q.2, onw Wh.length s e.2) ∈ es)
def spHas (K : PySem.W.Frag) : Sp := fun vs H Q _ => ∃ (rr : Addr) (x : Str) (v : V) (S R : List Int) (b : Int) (ns : List Str) (rws : List (List (Int × Str))) (kvs : List (Key × V)) (G : Hp), vs = [.ref rr, .str x, v] ∧ RowsR K G H rr ns rws kvs ∧ BookOk b ns rws ∧ Dq K G v (pairD (S, R)) ∧ R ≠ [] ∧ S.length + R.length ≤ 1000 ∧
  ∀ (c : Bool) (H' : Hp), (c = true ↔ Has (rowAt ns rws) ns S R x) → Same H H' → Q (.bl c) H'
structure TxH (mg : Str → Option Value) : Prop where
  len : mg "len" = none
  range : mg "range" = none
section
variable {P : Program} {w : World} {K : PySem.W.Frag} {mg : Str → Option Value} {base : Heap}
end
end My

set_option maxHeartbeats 1000000
set_option linter.all false
namespace My
open PySem PySem.Spec PyProof.Rows L2
/-! ### what is walked, of two kinds -/
theorem pi_or {X : Cx} {tg e : Expr} {w1 w2 : TI} (h1 : PI X tg e w1) (h2 : PI X tg e w2) : PI X tg e (fun σ H R => w1 σ H R ∨ w2 σ H R) := ⟨fun ps sh sl Hp0 R inv q => q.elim (h1.run ps sh sl Hp0 R inv) (h2.run ps sh sl Hp0 R inv)⟩
/-! ### great numbers -/
theorem op_fdivP {X : Cx} : OpR X (binaryOp .FloorDiv) (rI CDivP fun i j => .int (i / j)) := opI fun i j _ _ _ _ _ hc q => by
  have pos : (0 : Int) < j := hc.1
  refine floordiv_int (by omega) ?_ (.inl hc.2)
  rw [Int.fdiv_eq_ediv_of_nonneg i (by omega)]
  exact q
theorem divp_of {x g d b : Int} (x0 : 0 ≤ x) (xb : x ≤ b) (g0 : 0 < g) (e : b = g * d) (d0 : 0 ≤ d) (hd : d.natAbs < 2 ^ 3900) : CDivP x g := by
  refine divp_ok g0 ?_
  have h1 : g.natAbs < 2 ^ (g.natAbs.log2 + 1) := Nat.lt_log2_self
  have h2 : x.natAbs < 2 ^ (g.natAbs.log2 + 1 + 3900) := by
    have h3 : b.natAbs < 2 ^ (g.natAbs.log2 + 1 + 3900) := by rw [e]; exact wide_lt h1 hd
    omega
  have h4 := PyProof.Rows.intBits_le h2
  have h5 : Builtin.Int.intBits g = g.natAbs.log2 + 1 := by
    unfold Builtin.Int.intBits
    rw [if_neg (by simpa using (show g ≠ 0 by omega))]
  omega
def rMulB : R2 := fun x y H Q => ∃ (G : Hp) (l : Addr) (k : Nat) (u : V), x = .ref l ∧ y = .int (k : Int) ∧ Same G H ∧ G l = some (.tup [u]) ∧ k ≤ 100000 ∧ ∀ (a : Addr) (G' H' : Hp), Nw G H G' H' → G' a = some (.tup (List.replicate k u)) → Q (.ref a) H'
theorem rep_one {α : Type} (u : α) (k : Nat) : (List.replicate k [u]).flatten = List.replicate k u := by
  induction k with
  | zero => rfl
  | succ k ih => rw [List.replicate_succ, List.flatten_cons, ih]; rfl
theorem op_mulB {X : Cx} : OpR X (binaryOp .Mult) rMulB := by
  intro ps sh sl Hp0 x y v w Q inv rx ry h
  by_cases small : ∃ (G : Hp) (l : Addr) (k : Nat) (u : V), x = .ref l ∧ y = .int (k : Int) ∧ k ≤ 1000 ∧ Same G Hp0 ∧ G l = some (.tup [u]) ∧ ∀ (a : Addr) (G' H' : Hp), Nw G Hp0 G' H' → G' a = some (.tup (List.replicate k u)) → Q (.ref a) H'
  · obtain ⟨G, l, k, u, e1, e2, hk, sg, hl, q⟩ := small
    refine op_mulG ps sh sl Hp0 x y v w Q inv rx ry ⟨G, l, k, [u], e1, e2, sg, hl, by simp, by omega, by omega, by simp, fun a G' H' m ha => q a G' H' m ?_⟩
    rw [Int.toNat_natCast, rep_one] at ha
    exact ha
  obtain ⟨G, l, k, u, rfl, rfl, sg, hl, hk, q⟩ := h
  have big : 1000 < k := by
    rcases Nat.lt_or_ge 1000 k with z | z
    · exact z
    · exact absurd ⟨G, l, k, u, rfl, rfl, z, sg, hl, q⟩ small
  clear small
  cases rx
  obtain ⟨tk, rfl⟩ := ry
  have hT : SqT X.K Hp0 l [u] := SqT.of (sg _ _ hl)
  obtain ⟨its, r, ⟨⟨cls, dd, data, slo⟩, ho, hc, nn, hd⟩, hs⟩ := inv.tuple hT
  simp only at hc hd
  subst hc hd
  have len1 : its.length = 1 := r.length.symm
  have emp : its.toArray.isEmpty = false := by
    cases its with
    | nil => cases len1
    | cons a b => rfl
  have sz : its.toArray.size = 1 := by rw [List.size_toArray, len1]
  have fl : (List.replicate k its).flatten.length ≤ sizeLine := by rw [PyProof.Rows.lm_len_rep_flat, len1, sizeLine_eq]; omega
  have d0 : (decide ((k : Int) < -(2 ^ 63)) || decide ((k : Int) ≥ 2 ^ 63)) = false := by
    rw [decide_eq_false (show ¬ ((k : Int) < -(2 ^ 63)) by omega), decide_eq_false (show ¬ ((k : Int) ≥ 2 ^ 63) by omega)]; rfl
  have d1 : (its.toArray.isEmpty || (k : Int) == 1) = false := by
    rw [emp, Bool.false_or]; exact beq_eq_false_iff_ne.mpr (by omega)
  have d2 : (decide ((k : Int) ≤ 0) || its.toArray.isEmpty) = false := by
    rw [emp, Bool.or_false]; exact decide_eq_false (by omega)
  have d3 : ¬ ((its.toArray.size : Nat) : Int) * (k : Int) > (2 ^ 63 - 1) / 8 := by rw [sz]; omega
  have d4 : Builtin.Tuple.tupleTooMany (((its.toArray.size : Nat) : Int) * (k : Int)) = false := by
    unfold Builtin.Tuple.tupleTooMany
    rw [sizeLine_eq, sz]; exact decide_eq_false (by omega)
  have d5 : (List.foldl (fun x1 x2 => x1 ++ x2) #[] (List.replicate (k : Int).toNat its.toArray)).size ≤ sizeLine := by rw [Int.toNat_natCast, size_rep, List.size_toArray]; exact fl
  refine wpAny_binaryOp_repeat_ref (T := "tuple") (U := "int") (by decide) ⟨_, ho, rfl⟩ (fun s' => typeIs_int s' (k : Int) tk) noFill_tuple_mul F.fills_int_mul F.slot_int_rmul repeat_tuple F.slot_int_index.lookup
    (call_meets F.slot_int_rmul (typeIs_int sh (k : Int) tk) F.entry_int_rmul (F.args_int_rmul_2 _ _) (int_rmul_tuple (k : Int) tk l its.toArray nn dd slo) ⟨ho, rfl, ⟨_, ho, rfl⟩, call_meets F.slot_tuple_mul ⟨_, ho, rfl⟩ F.entry_tuple_mul (F.args_tuple_mul_2 _ _) (tuple_mulW l its.toArray nn dd slo (k : Int) tk d0 d1 d2 d3 d4 d5) ⟨ho, ?_⟩⟩)
  rw [Int.toNat_natCast, size_rep]
  have np := inv.hok.fresh (Nat.le_refl sh.heap.objs.size)
  refine ⟨.ref sh.heap.objs.size, _, inv.laid (t' := sh.toks) (o := .tup (List.replicate k [u]).flatten) (fun b ob e => Heap.get?_push_of_some _ e) (Nat.le_refl _) ?_, rfl, ?_⟩
  · exact ⟨by rw [rep_one, List.length_replicate, sizeLine_eq]; omega, _, r.rep k, IsTup.new _ _⟩
  · exact q _ _ _ (Nw.mk1 sg np (.tup (List.replicate k [u]).flatten)) (by rw [rep_one]; exact upd_same)
/-! ### lowest terms of great numbers -/
def spRed2 : Sp := fun vs H Q _ => ∃ a b : Int, vs = [.int a, .int b] ∧ 0 ≤ a ∧ a ≤ b ∧ 0 < b ∧ (b / gN a b).natAbs < 2 ^ 3900 ∧ ∀ q, H q = none → Q (.ref q) (upd H q (.tup [.int (a / gN a b), .int (b / gN a b)]))
def spLNumber2 (K : PySem.W.Frag) : Sp := fun vs H Q _ => ∃ (b : Int) (a : Addr) (l : List Int), vs = [.int b, .ref a] ∧ 2 ≤ b ∧ b ≤ 10 ∧ (SqL K H a (l.map V.int) ∨ SqT K H a (l.map V.int)) ∧ Q (.int (nb b l)) H
def spWorth2 (K : PySem.W.Frag) : Sp := fun vs H Q _ => ∃ (b : Int) (x y : Addr) (S R : List Int) (n d : Int), vs = [.int b, .ref x, .ref y] ∧ 2 ≤ b ∧ b ≤ 10 ∧ H x = some (.lst (S.map V.int)) ∧ H y = some (.lst (R.map V.int)) ∧ R ≠ [] ∧ Digs b S ∧ Digs b R ∧ S.length + R.length ≤ 20000 ∧
  frD b S R = .tuple [.int n, .int d] ∧ d.natAbs < 2 ^ 3900 ∧ ∀ (q : Addr) (H' : Hp), Same H H' → H' q = some (.tup [.int n, .int d]) → Q (.ref q) H'
section
variable {P : Program} {w : World} {K : PySem.W.Frag} {mg : Str → Option Value} {base : Heap}
theorem gN_pos {a b : Int} (b0 : 0 < b) : 0 < gN a b := by
  unfold gN
  have : 0 < Nat.gcd b.natAbs a.natAbs := Nat.gcd_pos_of_pos_left _ (by omega)
  omega
theorem gN_dvd {a b : Int} : gN a b ∣ b := by unfold gN; exact Int.ofNat_dvd_left.mpr (Nat.gcd_dvd_left _ _)
theorem ok_red2 {f : Addr} {fd : FuncData} (F : Fun K "_law_reduced" "_law_reduced" sRed f fd) : FnOk P w K mg base CX0 1 f fd ["top", "whole"] spRed2 := by
  refine F.ok scRed (fun vs H Q E h => ?_) (fun cdv A outer s H vs Q E hr h => ?_)
  · obtain ⟨a, b, rfl, _⟩ := h
    rfl
  · obtain ⟨a, b, rfl, a0, ab, b0, small, k⟩ := h
    refine ⟨_, pss_cons (ps_par (i := 2) (j := 3) (by rfl) scRed.nd rfl rfl (by decide) rfl rfl (pa_cons (pv 1) (pa_cons (pv 0) pa_nil)) (by rfl))
      (pss_cons (ps_while PassesOwn.never (pt_cmpR op_ne (pv 3) pe_int (nomark _))
        (pss_one (ps_par (i := 2) (j := 3) (by rfl) scRed.nd rfl rfl (by decide) rfl rfl (pa_cons (pv 3) (pa_cons (pe_op op_mod (pv 2) (pv 3)) pa_nil)) (by rfl))))
      (pss_one (ps_ret (pe_tup (pa_cons (pe_op op_fdivP (pv 0) (pv 2)) (pa_cons (pe_op op_fdivP (pv 1) (pv 2)) pa_nil)))))), ?_⟩
    refine ⟨_, rfl, _, rfl, _, _, rfl, ?_⟩
    refine while_by (fun σ H2 => ∃ x y : Nat, σ = [some (.int a), some (.int b), some (.int (x : Int)), some (.int (y : Int))] ∧ H2 = H ∧ Nat.gcd x y = Nat.gcd b.natAbs a.natAbs) (fun σ _ => match σ with | [_, _, _, some (.int y)] => y.natAbs | _ => 0) ?_ ?_ ?_
    · refine ⟨b.natAbs, a.natAbs, ?_, rfl, rfl⟩
      have e1 : ((b.natAbs : Nat) : Int) = b := by omega
      have e2 : ((a.natAbs : Nat) : Int) = a := by omega
      rw [e1, e2]; rfl
    · rintro σ H2 ⟨x, y, rfl, rfl, hg⟩
      refine ⟨_, rfl, rfl, _, rfl, ?_⟩
      by_cases hy : y = 0
      · have e1 : (!decide (V.int (y : Int) = V.int 0)) = false := by rw [hy]; rfl
        refine ifF e1 ?_
        subst hy
        have hx : (x : Int) = gN a b := by unfold gN; rw [← hg, Nat.gcd_zero_right]
        have wd : ∀ z : Int, 0 ≤ z → z ≤ b → CDivP z (x : Int) := fun z z0 zb => by
          rw [hx]
          exact divp_of z0 zb (gN_pos b0) (Int.mul_ediv_cancel' gN_dvd).symm (Int.ediv_nonneg (by omega) (Int.le_of_lt (gN_pos b0))) small
        refine ⟨_, rfl, _, rfl, _, _, rfl, rfl, wd _ a0 ab, _, rfl, _, rfl, _, _, rfl, rfl, wd _ (by omega) (Int.le_refl _), (by show 2 ≤ sizeLine; decide), fun q hq => ?_⟩
        have kq := k q hq
        rw [← hx] at kq
        exact kq
      · have e1 : (!decide (V.int (y : Int) = V.int 0)) = true := by
          rw [decide_eq_false]
          · rfl
          · exact fun z => hy (by have := V.int.inj z; omega)
        refine ifT e1 ?_
        refine ⟨_, rfl, _, rfl, _, rfl, _, _, rfl, rfl, by omega, _, _, rfl, ⟨y, x % y, ?_, rfl, by rw [gcd_turn]; exact hg⟩, ?_⟩
        · rw [Int.natCast_emod]; rfl
        · show ((x : Int) % (y : Int)).natAbs < (y : Int).natAbs
          have := Nat.mod_lt x (Nat.pos_of_ne_zero hy)
          rw [← Int.natCast_emod]
          omega
    · intro σ H2 Q1 Q2 m h
      obtain ⟨v, e, h1, b1, e2, h2⟩ := h
      exact ⟨v, e, h1, b1, e2, m _ _ h2⟩
end
end My

set_option linter.all false
namespace My
open PySem PySem.Spec PyProof.Rows L2
/-! ### the fraction of rounds -/
theorem frD_step {b : Int} (b0 : 2 ≤ b) {S R : List Int} (hS : Digs b S) (hd : Digs b R) (hR : R ≠ []) : frD b (S ++ R) R = frD b S R := by
  have e1 : tp b (S ++ R) R = b ^ R.length * tp b S R := by
    unfold tp
    rw [nb_app]
    generalize b ^ R.length = q
    generalize nb b S = s
    generalize nb b R = r
    rw [Int.mul_add q, Int.add_mul, Int.mul_comm s q, Int.mul_assoc q s, Int.mul_sub r, Int.mul_one, Int.mul_comm r q]
    omega
  have e2 : bt b (S ++ R) R = b ^ R.length * bt b S R := by
    unfold bt
    rw [List.length_append, Int.pow_add, Int.mul_comm (b ^ S.length) (b ^ R.length), Int.mul_assoc]
  have c : tp b S R * bt b (S ++ R) R = bt b S R * tp b (S ++ R) R := by rw [e1, e2, Int.mul_left_comm, Int.mul_left_comm (bt b S R), Int.mul_comm (tp b S R)]
  obtain ⟨c1, c2⟩ := red_cross c (tp_nn b0 hS hd) (bt_pos b0 _ hR) (bt_pos b0 S hR)
  unfold frD
  rw [c1, c2]
theorem digs_app {b : Int} {S R : List Int} (hS : Digs b S) (hR : Digs b R) : Digs b (S ++ R) := fun x hx => by
  rcases List.mem_append.mp hx with q | q
  · exact hS x q
  · exact hR x q
theorem digs_reps {b : Int} {R : List Int} (h : Digs b R) (k : Nat) : Digs b (List.replicate k R).flatten := fun x hx => by
  obtain ⟨m, hm, hx⟩ := List.mem_flatten.mp hx
  rw [(List.mem_replicate.mp hm).2] at hx
  exact h x hx
theorem frD_stem {b : Int} (b0 : 2 ≤ b) {S R : List Int} (hS : Digs b S) (hd : Digs b R) (hR : R ≠ []) (j : Nat) : frD b (S ++ (List.replicate j R).flatten) R = frD b S R := by
  induction j with
  | zero => rw [List.replicate_zero, List.flatten_nil, List.append_nil]
  | succ j ih =>
    have e : S ++ (List.replicate (j + 1) R).flatten = (S ++ (List.replicate j R).flatten) ++ R := by rw [List.replicate_succ', List.flatten_append, List.append_assoc]; simp
    rw [e, frD_step b0 (digs_app hS (digs_reps hd j)) hd hR, ih]
theorem reps_ne {R : List Int} (hR : R ≠ []) {k : Nat} (hk : 0 < k) : (List.replicate k R).flatten ≠ [] := by
  obtain ⟨m, rfl⟩ : ∃ m, k = m + 1 := ⟨k - 1, by omega⟩
  rw [List.replicate_succ, List.flatten_cons]
  exact fun z => hR (List.append_eq_nil_iff.mp z).1
theorem frD_rounds {b : Int} (b0 : 2 ≤ b) {S R : List Int} (hS : Digs b S) (hd : Digs b R) (hR : R ≠ []) (j : Nat) {k : Nat} (hk : 0 < k) : frD b (S ++ (List.replicate j R).flatten) (List.replicate k R).flatten = frD b S R := by
  rw [← frD_stem b0 hS hd hR j]
  exact (frD_rnd b0 (digs_app hS (digs_reps hd j)) (digs_reps hd k) (reps_ne hR hk) ⟨hR, k, rfl⟩).symm
section
variable {P : Program} {w : World} {K : PySem.W.Frag} {mg : Str → Option Value} {base : Heap}
theorem ok_lnumber2 {f : Addr} {fd : FuncData} (F : Fun K "_law_number" "_law_number" sLNumber f fd) : FnOk P w K mg base CX0 1 f fd ["base", "digits"] (spLNumber2 K) := by
  refine F.ok scLNumber (fun vs H Q E h => ?_) (fun cdv A outer s H vs Q E hr h => ?_)
  · obtain ⟨b, a, l, rfl, _⟩ := h
    rfl
  · obtain ⟨b, a, l, rfl, b0, b1, hS, k⟩ := h
    refine ⟨_, (pss_cons (ps_set (i := 2) scLNumber.nd rfl (Or.inl rfl) pe_int)
      (pss_cons (ps_for PassesOwn.never rfl (pi_or (pi_list (pv 1)) (pi_tup (pv 1))) (pg_name (i := 3) scLNumber.nd rfl (Or.inl rfl)) (pss_one (ps_set (i := 2) scLNumber.nd rfl (Or.inl rfl) (pe_op op_add (pe_op op_mul (pv 2) (pv 0)) (pv 3)))))
      (pss_one (ps_ret (pv 2))))), ?_⟩
    rcases hS with hS | hS
    · refine .inl ⟨_, rfl, a, rfl, ⟨_, hS⟩, for_list (K := K) (a := a) (xs := l.map V.int) (fun i σ H2 => H2 = H ∧ ∃ y : Option V, σ = [some (.int b), some (.ref a), some (.int (nb b (l.take i))), y]) ⟨rfl, none, rfl⟩ (fun i σ H2 _ q => by rw [q.1]; exact hS) ?_ ?_⟩
      · rintro i x σ H2 hx ⟨rfl, y, rfl⟩
        obtain ⟨z, hz, rfl⟩ := at_int hx
        refine ⟨_, rfl, _, rfl, _, _, rfl, rfl, small_base b0 b1 _, _, rfl, _, _, rfl, rfl, rfl, some (.int z), ?_⟩
        rw [nb_take b l hz]
        rfl
      · rintro σ H2 ⟨rfl, y, rfl⟩
        refine ⟨_, rfl, ?_⟩
        rw [List.length_map, List.take_length]
        exact k
    · refine .inr ⟨_, rfl, a, rfl, ⟨_, hS⟩, for_tup (K := K) (a := a) (xs := l.map V.int) (fun i σ H2 => H2 = H ∧ ∃ y : Option V, σ = [some (.int b), some (.ref a), some (.int (nb b (l.take i))), y]) ⟨rfl, none, rfl⟩ (fun i σ H2 _ q => by rw [q.1]; exact hS) ?_ ?_⟩
      · rintro i x σ H2 hx ⟨rfl, y, rfl⟩
        obtain ⟨z, hz, rfl⟩ := at_int hx
        refine ⟨_, rfl, _, rfl, _, _, rfl, rfl, small_base b0 b1 _, _, rfl, _, _, rfl, rfl, rfl, some (.int z), ?_⟩
        rw [nb_take b l hz]
        rfl
      · rintro σ H2 ⟨rfl, y, rfl⟩
        refine ⟨_, rfl, ?_⟩
        rw [List.length_map, List.take_length]
        exact k
theorem rep_map (x : Int) (k : Nat) : List.replicate k (V.int x) = (List.replicate k x).map V.int := by rw [List.map_replicate]
theorem ok_worth2 {f fNu fR : Addr} {fd fdNu fdR : FuncData} (F : Fun K "_law_worth" "_law_worth" sWorth f fd) (ml : mg "len" = none) (FNu : Fun K "_law_number" "_law_number" sLNumber fNu fdNu) (bNu : Binds K fdNu ["base", "digits"] []) (gNu : mg "_law_number" = some (.ref fNu))
    (FR : Fun K "_law_reduced" "_law_reduced" sRed fR fdR) (bR : Binds K fdR ["top", "whole"] []) (gR : mg "_law_reduced" = some (.ref fR)) : FnOk P w K mg base CX0 2 f fd ["base", "stem", "ring"] (spWorth2 K) := by
  have GNu : FnOk P w K mg base CX0 1 fNu fdNu ["base", "digits"] (spLNumber2 K) := ok_lnumber2 FNu
  have GR : FnOk P w K mg base CX0 1 fR fdR ["top", "whole"] spRed2 := ok_red2 FR
  refine F.ok scWorth (fun vs H Q E h => ?_) (fun cdv A outer s H vs Q E hr h => ?_)
  · obtain ⟨b, x, y, S, R, n, d, rfl, _⟩ := h
    rfl
  · obtain ⟨b, x, y, S, R, n, d, rfl, b0, b1, hx, hy, hR, dS, dR, hl, fe, small, k⟩ := h
    have hr1 := hr
    refine ⟨_, (pss_cons (ps_set (i := 3) scWorth.nd rfl (Or.inl rfl) (pe_call GNu hr1 (by rfl) gNu FNu.kp bNu .nil pass0 (pa_cons (pv 0) (pa_cons (pe_op op_mulB (pe_tup (pa_cons (pe_op op_sub (pv 0) pe_int) pa_nil)) (pe_callB call_len_seq (by rfl) ml PySem.boot_len (pa_cons (pv 2) pa_nil))) pa_nil))))
      (pss_cons (ps_set (i := 4) scWorth.nd rfl (Or.inl rfl) (pe_call GNu hr1 (by rfl) gNu FNu.kp bNu .nil pass0 (pa_cons (pv 0) (pa_cons (pe_op op_catG (pe_tup (pa_cons pe_int pa_nil)) (pe_op op_mulB (pe_tup (pa_cons pe_int pa_nil)) (pe_callB call_len_seq (by rfl) ml PySem.boot_len (pa_cons (pv 1) pa_nil)))) pa_nil))))
      (pss_one (ps_ret (pe_call GR hr1 (by rfl) gR FR.kp bR .nil pass0 (pa_cons (pe_op op_add (pe_op op_mulW (pe_call GNu hr1 (by rfl) gNu FNu.kp bNu .nil pass0 (pa_cons (pv 0) (pa_cons (pv 1) pa_nil))) (pv 3)) (pe_call GNu hr1 (by rfl) gNu FNu.kp bNu .nil pass0 (pa_cons (pv 0) (pa_cons (pv 2) pa_nil)))) (pa_cons (pe_op op_mulW (pv 4) (pv 3)) pa_nil))))))), ?_⟩
    have sR := Same.refl H
    refine ⟨_, rfl, _, rfl, _, _, rfl, rfl, (by show 1 ≤ sizeLine; decide), fun t1 nt1 => ?_⟩
    have m1 := Nw.mk1 sR nt1 (.tup [.int (b - 1)])
    refine ⟨_, rfl, y, _, rfl, .inl (SqL.of (m1.hh _ _ hy)), _, t1, R.length, .int (b - 1), rfl, by rw [List.length_map], m1.gh, upd_same, by omega, fun ta G1 H1 m2 hta => ?_⟩
    have m2' := m1.trans m2
    rw [rep_map] at hta
    refine ⟨b, ta, List.replicate R.length (b - 1), rfl, b0, b1, .inr (SqT.of (m2.gh _ _ hta)), ?_⟩
    refine ⟨_, rfl, (by show 1 ≤ sizeLine; decide), fun t2 nt2 => ?_⟩
    have m3 := Nw.mk1 m2.gh nt2 (.tup [.int 1])
    refine ⟨(by show 1 ≤ sizeLine; decide), fun t3 nt3 => ?_⟩
    have m4 := Nw.mk1 m3.gh nt3 (.tup [.int 0])
    have m14 := (m2'.trans m3).trans m4
    refine ⟨_, rfl, x, _, rfl, .inl (SqL.of (m14.hh _ _ hx)), _, t3, S.length, .int 0, rfl, by rw [List.length_map], m4.gh, upd_same, by omega, fun tb G2 H2 m5 htb => ?_⟩
    rw [rep_map] at htb
    refine ⟨G2, t2, tb, _, _, rfl, rfl, m5.gh, m5.gg _ _ (m4.gg _ _ upd_same), htb, (by rw [List.length_map, List.length_replicate, sizeLine_eq]; simp only [List.length_cons, List.length_nil]; omega), fun tc G3 H3 m6 htc => ?_⟩
    have m16 := (m14.trans m5).trans m6
    refine ⟨b, tc, 1 :: List.replicate S.length 0, rfl, b0, b1, .inr (SqT.of (m6.gh _ _ htc)), ?_⟩
    rw [nb_nines, nb_scale]
    have a1 := nb_lt_2 b0 b1 dS
    have a2 := pow_sub_lt b0 b1 R.length
    have a3 := pow_lt_2 b0 b1 S.length
    refine ⟨_, rfl, _, rfl, b, x, S, rfl, b0, b1, .inl (SqL.of (m16.hh _ _ hx)), _, rfl, _, _, rfl, rfl, wide_mul a1 a2 (by omega) (by omega) (by omega), _, rfl, _, rfl, b, y, R, rfl, b0, b1, .inl (SqL.of (m16.hh _ _ hy)), _, _, rfl, rfl, _, rfl, _, rfl, _, _, rfl, rfl, wide_mul a3 a2 (by omega) (by omega) (by omega), ?_⟩
    have fe' : V.int (tp b S R / gN (tp b S R) (bt b S R)) = V.int n ∧ V.int (bt b S R / gN (tp b S R) (bt b S R)) = V.int d := by
      unfold frD at fe
      injection fe with fe
      injection fe with h1 h2
      injection h2 with h2 _
      injection h1 with h1
      injection h2 with h2
      exact ⟨by rw [h1], by rw [h2]⟩
    have e2 := V.int.inj fe'.2
    refine ⟨tp b S R, bt b S R, rfl, tp_nn b0 dS dR, tp_le b0 dS dR, bt_pos b0 S hR, by rw [e2]; exact small, fun q nq => ?_⟩
    rw [fe'.1, fe'.2]
    exact k q _ (m16.hh.trans (Same.upd nq)) upd_same
structure TxR6 (mg : Str → Option Value) : Prop where
  isi : mg "isinstance" = none
  tuple : mg "tuple" = none
  len : mg "len" = none
theorem eqv_nil : PyData.eqv (.list []) (.list []) = true := rfl
def spRight6 (K : PySem.W.Frag) : Sp := fun vs H Q _ => ∃ (bk rr : Addr) (x : Str) (v : V) (n d b : Int) (ns : List Str) (rws : List (List (Int × Str))) (kvs : List (Key × V)) (G : Hp), vs = [.ref bk, .str x, v] ∧ RowsR K G H rr ns rws kvs ∧ BookOk b ns rws ∧ G bk = some (.tup [.int b, .ref rr]) ∧ x ∈ ns ∧
  Dq K G v (.tuple [.int n, .int d]) ∧ Fra b n d ∧ d.natAbs < 2 ^ 3900 ∧ ∀ H', Same H H' → Q (.bl true) H'
end
end My

namespace My
open PySem PySem.Spec PyProof.Rows L2
/-! ### a fraction of stem and ring as lists -/
def iLst (l : List Int) : PyData := .list (l.map .int)
theorem dpl_ints {K : PySem.W.Frag} {H : Hp} {a : Addr} {l : List Int} (h : H a = some (.lst (l.map V.int))) : Dp K H (.ref a) (iLst l) := by
  refine .lst (SqL.of h) ?_
  clear h
  induction l with
  | nil => exact .nil
  | cons x r ih => exact .cons (.int x) ih
theorem eqv_iLst (l m : List Int) : PyData.eqv (iLst l) (iLst m) = decide (l = m) := by
  unfold iLst
  simp only [PyData.eqv]
  exact eqv_ints l m
theorem shaped_iLst (l : List Int) : SeqAt.shaped (iLst l) = true := by
  have h1 : PyData.canLayAll0 (l.map PyData.int) = true := by
    induction l with
    | nil => simp [PyData.canLayAll0]
    | cons x r ih => simp only [List.map_cons, PyData.canLayAll0, PyData.canLay0, ih, Bool.and_true]
  have h2 : PyData.depthAll (l.map PyData.int) = 0 := by
    clear h1
    induction l with
    | nil => simp only [List.map_nil, PyData.depthAll]
    | cons x r ih => simp only [List.map_cons, PyData.depthAll, PyData.depth, ih]; rfl
  unfold SeqAt.shaped iLst
  simp only [PyData.canLay0, PyData.depth, h1, h2]
  rfl
section
variable {P : Program} {w : World} {K : PySem.W.Frag} {mg : Str → Option Value} {base : Heap}
def spOnceL : Sp := fun vs H Q _ => ∃ (a : Addr) (R : List Int), vs = [.ref a] ∧ H a = some (.lst (R.map V.int)) ∧ R ≠ [] ∧ R.length ≤ 1000 ∧
  ∀ (R' : List Int) (a' : Addr) (H' : Hp), Same H H' → H' a' = some (.lst (R'.map V.int)) → Rnd R R' → Q (.ref a') H'
theorem ok_onceL {f : Addr} {fd : FuncData} (F : Fun K "_once" "_once" sOnce f fd) (ml : mg "len" = none) (mr : mg "range" = none) : FnOk P w K mg base CX0 1 f fd ["ring"] spOnceL := by
  refine F.ok scOnce (fun vs H Q E h => ?_) (fun cdv A outer s H vs Q E hr h => ?_)
  · obtain ⟨v, R, rfl, _⟩ := h
    rfl
  · obtain ⟨a, R, rfl, ha, hR, r1, k⟩ := h
    obtain ⟨n, hn⟩ : ∃ n, R.length = n + 1 := ⟨R.length - 1, by cases R with | nil => exact absurd rfl hR | cons x r => simp⟩
    refine ⟨_, (pss_cons (ps_setLc (i := 2) (own := [("size", 1)]) (g := gName 1) rfl scOnce.nd rfl (by rfl) (sw_true (by rfl) (by rfl) (by rfl) (by rfl)) (pi_range2 (by rfl) mr (pa_cons pe_int (pa_cons (pe_callB call_len_seq (by rfl) ml PySem.boot_len (pa_cons (pv 0) pa_nil)) pa_nil))) (blkOk_by (N := ["ring", "size", "sizes"]) (sc := defScope sOnce) (by decide +kernel)) (fun _ _ _ _ _ => (pg_name (i := 1) scOnce.nd rfl (Or.inl rfl)))
        (fun _ _ _ _ _ => pts_one (pt_cmpR op_eq (pe_op op_mod (pe_callB (show CallR _ _ (rLenK K) from call_len_seq) (by rfl) ml PySem.boot_len (pa_cons (pv 0) pa_nil)) (pv 1)) pe_int (nomark _))) (fun _ _ _ _ _ => (pv 1)))
      (pss_cons (ps_for PassesOwn.never rfl (pi_list (pv 2)) (pg_name (i := 1) scOnce.nd rfl (Or.inl rfl)) (pss_one (ps_if (pt_cmpR (op_eqD hr.units) (pe_op op_rep (pe_slice sl_list (pv 0) po_none (po_some (pv 1))) (pe_op op_fdivW (pe_callB call_len_seq (by rfl) ml PySem.boot_len (pa_cons (pv 0) pa_nil)) (pv 1))) (pv 0) (nomark _)) (pss_one (ps_ret (pe_slice sl_list (pv 0) po_none (po_some (pv 1))))) pss_nil)))
      (pss_one (ps_ret (pv 0))))), ?_⟩
    have ln : ((R.map V.int).length : Int) = (n : Int) + 1 := by rw [List.length_map, hn]; rfl
    refine ⟨_, rfl, a, _, rfl, .inl (SqL.of ha), 1, _, rfl, ⟨by decide, by decide, by omega, by omega⟩, fun D nD => ?_⟩
    rw [ln, show ((n : Int) + 1 - 1).toNat = n by omega]
    refine lc_it (walk_range (lo := 1) (n := n)) (fun i Hi => Same H Hi ∧ ∃ zs : List Nat, Hi D = some (.lst ((zs.map (fun z : Nat => (z : Int))).map V.int)) ∧ zs.length ≤ i ∧ ∀ z ∈ zs, 1 ≤ z ∧ z ≤ n) ⟨Same.upd nD, [], upd_same, Nat.le_refl _, fun _ z => nomatch z⟩ (fun _ _ _ _ => trivial) ?_ ?_
    · rintro i x Hi Hj hi ⟨si, zs, hD, hl, hz⟩ ⟨rfl, rfl⟩
      refine ⟨rfl, ?_⟩
      refine ⟨_, rfl, a, _, rfl, .inl (SqL.of (si _ _ ha)), _, rfl, _, _, rfl, rfl, by omega, rfl, _, rfl, ite2 (fun _ => ?_) (fun _ => ?_)⟩
      · refine ⟨_, rfl, _, hD, by rw [List.length_map, List.length_map, sizeLine_eq]; omega, fun c o hc => ?_, zs ++ [1 + i], ?_, by rw [List.length_append, List.length_singleton]; omega, fun z hz2 => ?_⟩
        · rw [upd_ne (ne_of_none hc nD)]; exact si c o hc
        · rw [upd_same, List.map_append, List.map_append]; rfl
        · rcases List.mem_append.mp hz2 with q | q
          · exact hz z q
          · rw [List.mem_singleton.mp q]; omega
      · exact ⟨si, zs, hD, by omega, hz⟩
    · rintro Hi ⟨si, zs, hD, _, hz⟩
      refine ⟨_, rfl, D, rfl, ⟨_, SqL.of hD⟩, for_list (K := K) (a := D) (xs := (zs.map (fun z : Nat => (z : Int))).map V.int) (fun i σ H2 => ∃ y1 : Option V, σ = [some (.ref a), y1, some (.ref D)] ∧ Same Hi H2) ⟨_, rfl, Same.refl _⟩ (fun i σ H2 _ q => SqL.of (by obtain ⟨_, _, q⟩ := q; exact q _ _ hD)) ?_ ?_⟩
      · rintro i x σ H2 hx ⟨y1, rfl, s2⟩
        obtain ⟨zi, hzi, rfl⟩ := at_int hx
        rw [List.getElem?_map] at hzi
        obtain ⟨z, hzz, rfl⟩ := Option.map_eq_some_iff.mp hzi
        obtain ⟨z1, zn⟩ := hz z (List.mem_of_getElem? hzz)
        have s02 : Same H H2 := si.trans s2
        refine ⟨_, rfl, _, rfl, (z : Int), rfl, a, _, rfl, SqL.of (s02 _ _ ha), fun c hc => ?_⟩
        rw [cut_take]
        have ltz : (R.take z).length = z := by rw [List.length_take]; omega
        have wd : ∀ y : Int, CDivW y (z : Int) := fun y => wide_div (b := 10) (by omega) (show ((z : Int)).natAbs < 2 ^ 10 by omega) (by decide) (by decide)
        have q0 : 0 ≤ ((R.map V.int).length : Int) / (z : Int) := Int.ediv_nonneg (by omega) (by omega)
        have q1 : ((R.map V.int).length : Int) / (z : Int) ≤ 1000 := by
          have := Int.ediv_le_self (z : Int) (show 0 ≤ ((R.map V.int).length : Int) by omega)
          omega
        have s3 := s02.trans (Same.upd (o := .lst ((R.take z).map V.int)) hc)
        refine ⟨_, rfl, a, _, rfl, .inl (SqL.of (s3 _ _ ha)), _, rfl, _, _, rfl, rfl, wd _, ?_⟩
        have mz : ((R.take z).map V.int).length * (((R.map V.int).length : Int) / (z : Int)).toNat ≤ sizeLine := by
          rw [List.length_map, ltz, sizeLine_eq]
          have : z * (((R.map V.int).length : Int) / (z : Int)).toNat ≤ 1000 * 1000 := Nat.mul_le_mul (by omega) (by omega)
          omega
        refine ⟨c, _, _, rfl, rfl, upd_same, by omega, by omega, mz, fun m hm => ?_⟩
        rw [rep_flat2]
        have s4 := s3.trans (Same.upd (o := .lst (((List.replicate (((R.map V.int).length : Int) / (z : Int)).toNat (R.take z)).flatten).map V.int)) hm)
        refine ⟨_, rfl, iLst _, iLst R, dpl_ints upd_same, dpl_ints (s4 _ _ ha), shaped_iLst _, shaped_iLst _, _, rfl, ?_⟩
        rw [eqv_iLst]
        refine ite2 (fun hy => ?_) (fun _ => ?_)
        · have hy := of_decide_eq_true hy
          refine ⟨_, rfl, _, rfl, (z : Int), rfl, a, _, rfl, SqL.of (s4 _ _ ha), fun c2 hc2 => ?_⟩
          rw [cut_take]
          exact k (R.take z) _ _ (s4.trans (Same.upd hc2)) upd_same ⟨fun h0 => by rw [h0] at ltz; simp at ltz; omega, _, hy.symm⟩
        · exact ⟨_, rfl, (s2.trans (Same.upd hc)).trans (Same.upd hm)⟩
      · rintro σ H2 ⟨y1, rfl, s2⟩
        exact ⟨_, rfl, k R _ _ (si.trans s2) ((si.trans s2) _ _ ha) ⟨hR, 1, by simp⟩⟩
def spNumberOfL (K : PySem.W.Frag) : Sp := fun vs H Q _ => ∃ (b : Int) (a : Addr) (l : List Int), vs = [.int b, .ref a] ∧ 2 ≤ b ∧ b ≤ 10 ∧ H a = some (.lst (l.map V.int)) ∧ ∀ (q : Addr) (H' : Hp), Same H H' → H' q = some (.tup [.int (nb b l), .int (b ^ l.length)]) → Q (.ref q) H'
theorem ok_numberOfL {f : Addr} {fd : FuncData} (F : Fun K "_number_of" "_number_of" sNumberOf f fd) : FnOk P w K mg base CX0 1 f fd ["base", "digits"] (spNumberOfL K) := by
  refine F.ok scNumberOf (fun vs H Q E h => ?_) (fun cdv A outer s H vs Q E hr h => ?_)
  · obtain ⟨b, a, l, rfl, _⟩ := h
    rfl
  · obtain ⟨b, a, l, rfl, b0, b1, ha, k⟩ := h
    refine ⟨_, (pss_cons (ps_asg (pe_tup (pa_cons pe_int (pa_cons pe_int pa_nil))) (pg_tup (by rfl) (pgs_cons (pg_name (i := 2) scNumberOf.nd rfl (Or.inl rfl)) (pgs_cons (pg_name (i := 3) scNumberOf.nd rfl (Or.inl rfl)) pgs_nil))))
      (pss_cons (ps_for PassesOwn.never rfl (pi_list (pv 1)) (pg_name (i := 4) scNumberOf.nd rfl (Or.inl rfl)) (pss_cons (ps_set (i := 2) scNumberOf.nd rfl (Or.inl rfl) (pe_op op_add (pe_op op_mul (pv 2) (pv 0)) (pv 4)))
      (pss_one (ps_set (i := 3) scNumberOf.nd rfl (Or.inl rfl) (pe_op op_mul (pv 3) (pv 0))))))
      (pss_one (ps_ret (pe_tup (pa_cons (pv 2) (pa_cons (pv 3) pa_nil))))))), ?_⟩
    refine ⟨(by show 2 ≤ sizeLine; decide), fun t nt => ⟨t, _, rfl, SqT.of upd_same, rfl, _, _, rfl, _, _, rfl, rfl, ?_⟩⟩
    have s1 : Same H (upd H t (.tup [.int 0, .int 1])) := Same.upd nt
    have hS2 : SqL K (upd H t (.tup [.int 0, .int 1])) a (l.map V.int) := SqL.of (s1 _ _ ha)
    refine ⟨_, rfl, a, rfl, ⟨_, hS2⟩, for_list (K := K) (a := a) (xs := l.map V.int) (fun i σ H2 => H2 = upd H t (.tup [.int 0, .int 1]) ∧ ∃ y : Option V, σ = [some (.int b), some (.ref a), some (.int (nb b (l.take i))), some (.int (b ^ i)), y]) ⟨rfl, none, by rw [Int.pow_zero]; rfl⟩ (fun i σ H2 _ q => by rw [q.1]; exact hS2) ?_ ?_⟩
    · rintro i x σ H2 hx ⟨rfl, y, rfl⟩
      obtain ⟨z, hz, rfl⟩ := at_int hx
      refine ⟨_, rfl, _, rfl, _, _, rfl, rfl, small_base b0 b1 _, _, rfl, _, _, rfl, rfl, ?_⟩
      refine ⟨_, rfl, _, rfl, _, _, rfl, rfl, small_base b0 b1 _, rfl, some (.int z), ?_⟩
      rw [nb_take b l hz, Int.pow_succ]
      rfl
    · rintro σ H2 ⟨rfl, y, rfl⟩
      refine ⟨_, rfl, _, rfl, (by show 2 ≤ sizeLine; decide), fun q nq => ?_⟩
      rw [List.length_map, List.take_length]
      exact k q _ (s1.trans (Same.upd nq)) upd_same
def spFractionOfL (K : PySem.W.Frag) : Sp := fun vs H Q _ => ∃ (b : Int) (x y : Addr) (S R : List Int), vs = [.int b, .ref x, .ref y] ∧ 2 ≤ b ∧ b ≤ 10 ∧ H x = some (.lst (S.map V.int)) ∧ H y = some (.lst (R.map V.int)) ∧ R ≠ [] ∧ Digs b S ∧ Digs b R ∧ S.length + R.length ≤ 1000 ∧
  ∀ (v : V) (H' : Hp), Same H H' → Dq K H' v (frD b S R) → Q v H'
theorem ok_fractionOfL {f fN fI fO : Addr} {fd fdN fdI fdO : FuncData} (F : Fun K "fraction_of" "fraction_of" sFractionOf f fd) (FN : Fun K "_number_of" "_number_of" sNumberOf fN fdN) (bN : Binds K fdN ["base", "digits"] []) (gN0 : mg "_number_of" = some (.ref fN))
    (FI : Fun K "in_lowest_terms" "in_lowest_terms" sInLowest fI fdI) (bI : Binds K fdI ["top", "bottom"] []) (gI : mg "in_lowest_terms" = some (.ref fI)) (gG : mg "gcd" = some (.builtin "math.gcd"))
    (FO : Fun K "_once" "_once" sOnce fO fdO) (bO : Binds K fdO ["ring"] []) (gO : mg "_once" = some (.ref fO)) (ml : mg "len" = none) (mr : mg "range" = none) : FnOk P w K mg base CX0 2 f fd ["base", "stem", "ring"] (spFractionOfL K) := by
  have GN : FnOk P w K mg base CX0 1 fN fdN ["base", "digits"] (spNumberOfL K) := ok_numberOfL FN
  have GI : FnOk P w K mg base CX0 1 fI fdI ["top", "bottom"] spInLowest := ok_inLowest FI gG
  have GO : FnOk P w K mg base CX0 1 fO fdO ["ring"] spOnceL := ok_onceL FO ml mr
  refine F.ok scFractionOf (fun vs H Q E h => ?_) (fun cdv A outer s H vs Q E hr h => ?_)
  · obtain ⟨b, x, y, S, R, rfl, _⟩ := h
    rfl
  · obtain ⟨b, x, y, S, R, rfl, b0, b1, hx, hy, hR, dS, dR, hl, k⟩ := h
    have hr1 := hr
    refine ⟨_, (pss_cons (ps_asg (pe_call GN hr1 (by rfl) gN0 FN.kp bN .nil pass0 (pa_cons (pv 0) (pa_cons (pv 1) pa_nil))) (pg_tup (by rfl) (pgs_cons (pg_name (i := 3) scFractionOf.nd rfl (Or.inl rfl)) (pgs_cons (pg_name (i := 4) scFractionOf.nd rfl (Or.inl rfl)) pgs_nil))))
      (pss_cons (ps_asg (pe_call GN hr1 (by rfl) gN0 FN.kp bN .nil pass0 (pa_cons (pv 0) (pa_cons (pe_call GO hr1 (by rfl) gO FO.kp bO .nil pass0 (pa_cons (pv 2) pa_nil)) pa_nil))) (pg_tup (by rfl) (pgs_cons (pg_name (i := 5) scFractionOf.nd rfl (Or.inl rfl)) (pgs_cons (pg_name (i := 6) scFractionOf.nd rfl (Or.inl rfl)) pgs_nil))))
      (pss_cons (ps_set (i := 7) scFractionOf.nd rfl (Or.inl rfl) (pe_op op_sub (pv 6) pe_int))
      (pss_one (ps_ret (pe_call GI hr1 (by rfl) gI FI.kp bI .nil pass0 (pa_cons (pe_op op_add (pe_op op_mulW (pv 3) (pv 7)) (pv 5)) (pa_cons (pe_op op_mulW (pv 4) (pv 7)) pa_nil)))))))), ?_⟩
    refine ⟨_, rfl, _, rfl, b, x, S, rfl, b0, b1, hx, fun q1 H1 s1 hq1 => ?_⟩
    refine ⟨q1, _, rfl, SqT.of hq1, rfl, _, _, rfl, _, _, rfl, rfl, ?_⟩
    refine ⟨_, rfl, _, rfl, y, R, rfl, s1 _ _ hy, hR, by omega, fun R' y' H5 s5 hy' rnd => ?_⟩
    have fe := frD_rnd b0 dS dR hR rnd
    rw [← fe] at k
    have dR' := rnd_digs rnd hR dR
    have lR' := rnd_len rnd hR
    have hR' := rnd.1
    clear fe rnd
    clear dR hy hR
    replace hl : S.length + R'.length ≤ 1000 := by omega
    refine ⟨b, y', R', rfl, b0, b1, hy', fun q2 H2 s2 hq2 => ?_⟩
    refine ⟨q2, _, rfl, SqT.of hq2, rfl, _, _, rfl, _, _, rfl, rfl, ?_⟩
    have a1 := nb_lt_2 b0 b1 dS
    have a2 := pow_sub_lt b0 b1 R'.length
    have a3 := pow_lt_2 b0 b1 S.length
    refine ⟨_, rfl, _, _, rfl, rfl, _, rfl, _, rfl, _, _, rfl, rfl, wide_mul a1 a2 (by omega) (by omega) (by omega), _, rfl, _, _, rfl, rfl, _, rfl, _, rfl, _, _, rfl, rfl, wide_mul a3 a2 (by omega) (by omega) (by omega), ?_⟩
    refine ⟨tp b S R', bt b S R', rfl, bt_pos b0 S hR', bt_lt b0 b1 (by omega), fun q nq => ?_⟩
    exact k _ _ (((s1.trans s5).trans s2).trans (Same.upd nq)) (.tup upd_same (.cons (.int _) (.cons (.int _) .nil)))
end
end My

set_option linter.all false
namespace My
open PySem PySem.Spec PyProof.Rows L2
/-! ### ways of anything -/
abbrev sWhole : Stmt := topS 15
abbrev sIsPair : Stmt := topS 23
abbrev sPWay : Stmt := topS 24
def pairOf : PyData → Option (Int × Str)
  | .tuple [.int d, .str s] => some (d, s)
  | _ => none
theorem pairOf_some {p : PyData} {q : Int × Str} (h : pairOf p = some q) : p = pairP q := by
  unfold pairOf at h
  split at h
  · cases h; rfl
  · cases h
theorem pairOf_pair (q : Int × Str) : pairOf (pairP q) = some q := rfl
def inBk (b : Int) (ns : List Str) (q : Int × Str) : Bool := decide (0 ≤ q.1) && decide (q.1 < b) && decide (q.2 ∈ ns)
def pairB (b : Int) (ns : List Str) (p : PyData) : Bool := match pairOf p with
  | some q => inBk b ns q
  | none => false
def stepG (f : Str → List (Int × Str)) (x : Str) (p : PyData) : Option Str := match pairOf p with
  | some q => if q ∈ f x then some q.2 else none
  | none => none
def wayG (f : Str → List (Int × Str)) : Str → List PyData → Bool
  | _, [] => true
  | x, p :: r => match stepG f x p with
    | some y => wayG f y r
    | none => false
def okG (f : Str → List (Int × Str)) (x : Str) : PyData → PyData → Bool
  | .tuple l1, .tuple l2 => !l2.isEmpty && wayG f x (l1 ++ l2 ++ l2.take 1)
  | _, _ => false
theorem cut_takeV (xs : List V) (k : Nat) : cutV xs none (some (k : Int)) = xs.take k := by
  unfold cutV
  have a1 : HT.sIx xs.length 0 none = 0 := rfl
  rw [sIx_nat, a1, List.drop_zero, Nat.sub_zero, ← List.take_take, List.take_length]
theorem cut_dropV (xs : List V) (k : Nat) : cutV xs (some (k : Int)) none = xs.drop k := by
  unfold cutV
  have a1 : HT.sIx xs.length xs.length none = xs.length := rfl
  rw [sIx_nat, a1]
  rcases Nat.le_total k xs.length with h | h
  · rw [Nat.min_eq_left h, List.take_of_length_le (by rw [List.length_drop]; exact Nat.le_refl _)]
  · rw [Nat.min_eq_right h, Nat.sub_self, List.take_zero, List.drop_eq_nil_of_le h]
theorem eqv_pair2 (a q : Int × Str) : PyData.eqv (pairP a) (pairP q) = decide (a = q) := by
  obtain ⟨a1, a2⟩ := a
  obtain ⟨q1, q2⟩ := q
  simp only [pairP, PyData.eqv, PyData.eqvAll]
  by_cases h1 : a1 = q1 <;> by_cases h2 : a2 = q2 <;> simp [h1, h2]
theorem any_pair2 (row : List (Int × Str)) (q : Int × Str) : ((row.map pairP).any fun z => PyData.eqv z (pairP q)) = decide (q ∈ row) := by
  induction row with
  | nil => rfl
  | cons a r ih =>
    rw [List.map_cons, List.any_cons, ih, eqv_pair2]
    by_cases h : a = q
    · simp [h]
    · have : ¬ q = a := fun e => h e.symm
      simp [h, this]
theorem stepG_pair {b : Int} {ns : List Str} {rws : List (List (Int × Str))} (B : BookOk b ns rws) {y z : Str} {p : PyData} (h : stepG (rowAt ns rws) y p = some z) : ∃ q, p = pairP q ∧ q ∈ rowAt ns rws y ∧ z = q.2 ∧ pairB b ns p = true := by
  unfold stepG at h
  cases e : pairOf p with
  | none => rw [e] at h; cases h
  | some q =>
    rw [e] at h
    by_cases c : q ∈ rowAt ns rws y
    · have h2 : (if q ∈ rowAt ns rws y then some q.2 else none) = some z := h
      rw [if_pos c] at h2
      have := B.inb c
      refine ⟨q, pairOf_some e, c, (Option.some.inj h2).symm, ?_⟩
      unfold pairB
      rw [e]
      show inBk b ns q = true
      unfold inBk
      simp [this.1, this.2.1, this.2.2]
    · have h2 : (if q ∈ rowAt ns rws y then some q.2 else none) = some z := h
      rw [if_neg c] at h2; cases h2
theorem stepG_eq {f : Str → List (Int × Str)} {y : Str} (q : Int × Str) : stepG f y (pairP q) = if q ∈ f y then some q.2 else none := rfl
def spWholeG (K : PySem.W.Frag) : Sp := fun vs H Q _ => ∃ (v : V) (d : PyData) (G : Hp), vs = [v] ∧ Same G H ∧ Dq K G v d ∧ Q (.bl (isT "int" d)) H
structure TxG (mg : Str → Option Value) : Prop where
  isi : mg "isinstance" = none
  len : mg "len" = none
  int : mg "int" = none
  bool : mg "bool" = none
  tuple : mg "tuple" = none
  str : mg "str" = none
  list : mg "list" = none
theorem valV_in {κ : Type} [DecidableEq κ] {kvs : List (κ × V)} {k : κ} : (valV kvs k).isSome = decide (k ∈ kvs.map (·.1)) := by
  rw [← valV_any]
  induction kvs with
  | nil => rfl
  | cons a r ih =>
    rw [List.any_cons, ih, List.map_cons]
    by_cases h : a.1 = k
    · simp [h]
    · have : ¬ k = a.1 := fun e => h e.symm
      simp [h, this]
section
variable {P : Program} {w : World} {K : PySem.W.Frag} {mg : Str → Option Value} {base : Heap}
theorem scWhole : FnScope ["thing"] ["thing"] (defScope sWhole) := ⟨rfl, rfl, rfl, by decide +kernel, rfl, by decide +kernel, by decide +kernel⟩
theorem ok_whole {f : Addr} {fd : FuncData} (F : Fun K "is_whole" "is_whole" sWhole f fd) (T : TxG mg) : FnOk P w K mg base CX0 1 f fd ["thing"] (spWholeG K) := by
  refine F.ok scWhole (fun vs H Q E h => ?_) (fun cdv A outer s H vs Q E hr h => ?_)
  · obtain ⟨v, d, G, rfl, _⟩ := h
    rfl
  · obtain ⟨v, d, G, rfl, e, dv, k⟩ := h
    refine ⟨_, (pss_one (ps_ret (pe_and (pe_callB call_isi (by rfl) T.isi boot_isinstance (pa_cons (pv 0) (pa_cons (pe_bltn (v := .ty "int") (by rfl) T.int boot_int rfl) pa_nil))) (pe_one (pe_not (pe_callB call_isi (by rfl) T.isi boot_isinstance (pa_cons (pv 0) (pa_cons (pe_bltn (v := .ty "bool") (by rfl) T.bool boot_bool rfl) pa_nil)))))))), ?_⟩
    refine ⟨_, rfl, _, _, _, _, _, rfl, .ty _, dv.ty e, kit_ty (kit_int _), _, rfl, ?_⟩
    cases hi : isT "int" d || isT "bool" d with
    | false =>
      have h1 : isT "int" d = false := by cases q : isT "int" d with | false => rfl | true => rw [q] at hi; cases hi
      rw [h1] at k
      exact iteF k
    | true =>
      refine iteT ⟨_, rfl, _, _, _, _, _, rfl, .ty _, dv.ty e, kit_ty (kit_bool _), _, rfl, ?_⟩
      have h1 : (!isT "bool" d) = isT "int" d := by cases d <;> first | rfl | exact Bool.noConfusion (show false = true from hi)
      rw [h1]
      exact k
theorem scIsPair : FnScope ["book", "thing", "base", "rows", "digit", "name"] ["book", "thing"] (defScope sIsPair) := ⟨rfl, rfl, rfl, by decide +kernel, rfl, by decide +kernel, by decide +kernel⟩
def spPairG (K : PySem.W.Frag) : Sp := fun vs H Q _ => ∃ (bk rr : Addr) (v : V) (d : PyData) (b : Int) (ns : List Str) (rws : List (List (Int × Str))) (kvs : List (Key × V)) (G G2 : Hp), vs = [.ref bk, v] ∧ RowsR K G H rr ns rws kvs ∧ G bk = some (.tup [.int b, .ref rr]) ∧
  Same G2 H ∧ Dq K G2 v d ∧ Q (.bl (pairB b ns d)) H
theorem ok_ispair {f fWh : Addr} {fd fdWh : FuncData} (F : Fun K "_is_pair" "_is_pair" sIsPair f fd) (T : TxG mg)
    (FWh : Fun K "is_whole" "is_whole" sWhole fWh fdWh) (bWh : Binds K fdWh ["thing"] []) (gWh : mg "is_whole" = some (.ref fWh)) : FnOk P w K mg base CX0 2 f fd ["book", "thing"] (spPairG K) := by
  have GWh : FnOk P w K mg base CX0 1 fWh fdWh ["thing"] (spWholeG K) := ok_whole FWh T
  refine F.ok scIsPair (fun vs H Q E h => ?_) (fun cdv A outer s H vs Q E hr h => ?_)
  · obtain ⟨bk, rr, v, d, b, ns, rws, kvs, G, G2, rfl, _⟩ := h
    rfl
  · obtain ⟨bk, rr, v, d, b, ns, rws, kvs, G, G2, rfl, RR, gb, e, dv, k⟩ := h
    have hr1 := hr
    have hu1 := Nat.lt_trans (Nat.add_lt_add_left (show 1 < 64 by decide) _) hr.units
    refine ⟨_, (pss_cons (ps_if (PW.pt (pw_or (pt_not (pt_val (pe_callB call_isi (by rfl) T.isi boot_isinstance (pa_cons (pv 1) (pa_cons (pe_bltn (v := .ty "tuple") (by rfl) T.tuple boot_tuple rfl) pa_nil))))) (pw_or1 (pt_cmpR op_ne (pe_callB call_len_seq (by rfl) T.len PySem.boot_len (pa_cons (pv 1) pa_nil)) pe_int (nomark _))))) (pss_one (ps_ret pe_bl)) pss_nil)
      (pss_cons (ps_asg (pv 0) (pg_tup (by rfl) (pgs_cons (pg_name (i := 2) scIsPair.nd rfl (Or.inl rfl)) (pgs_cons (pg_name (i := 3) scIsPair.nd rfl (Or.inl rfl)) pgs_nil))))
      (pss_cons (ps_asg (pv 1) (pg_tup (by rfl) (pgs_cons (pg_name (i := 4) scIsPair.nd rfl (Or.inl rfl)) (pgs_cons (pg_name (i := 5) scIsPair.nd rfl (Or.inl rfl)) pgs_nil))))
      (pss_cons (ps_if (PW.pt (pw_or (pt_not (pt_val (pe_call GWh hr1 (by rfl) gWh FWh.kp bWh .nil pass0 (pa_cons (pv 4) pa_nil)))) (pw_or1 (pt_not (pt_chain op_le op_lt pe_int (pv 4) (pv 2)))))) (pss_one (ps_ret pe_bl)) pss_nil)
      (pss_one (ps_ret (pe_and (pe_callB call_isi (by rfl) T.isi boot_isinstance (pa_cons (pv 5) (pa_cons (pe_bltn (v := .ty "str") (by rfl) T.str boot_str rfl) pa_nil))) (pe_one (pe_cmp (pc_din hu1 (pv 5) (pv 3))))))))))), ?_⟩
    refine ⟨_, rfl, _, _, _, _, _, rfl, .ty _, dv.ty e, kit_ty (kit_tuple _), _, rfl, ?_⟩
    cases dv with
    | tup h1 h2 =>
      rename_i a xs ds
      refine iteF ?_
      refine ⟨_, rfl, a, _, rfl, .inr (SqT.of (e _ _ h1)), rfl, _, rfl, ?_⟩
      have ln := h2.len
      by_cases l2 : xs.length = 2
      · refine ifF (by simp [l2]) ?_
        obtain ⟨d0, d1, rfl⟩ : ∃ d0 d1, ds = [d0, d1] := by
          match ds, (ln.symm.trans l2 : ds.length = 2) with
          | [d0, d1], _ => exact ⟨d0, d1, rfl⟩
        cases h2 with
        | cons q0 r0 =>
          cases r0 with
          | cons q1 r1 =>
            cases r1
            rename_i v0 v1
            refine ⟨_, rfl, bk, _, rfl, SqT.of (RR.same _ _ gb), rfl, _, _, rfl, _, _, rfl, rfl, ?_⟩
            refine ⟨_, rfl, a, _, rfl, SqT.of (e _ _ h1), rfl, _, _, rfl, _, _, rfl, rfl, ?_⟩
            refine ⟨_, rfl, v0, d0, G2, rfl, e, q0, _, rfl, ?_⟩
            cases q0 with
            | int i =>
              refine iteF ?_
              have out : ¬ (0 ≤ i ∧ i < b) → Q (.bl false) H := fun h => by
                have e2 : pairB b ns (.tuple [.int i, d1]) = false := by
                  unfold pairB pairOf
                  split
                  · rename_i q hq
                    split at hq
                    · rename_i h3
                      cases h3; cases hq
                      unfold inBk
                      by_cases c1 : 0 ≤ i
                      · have : ¬ i < b := fun c2 => h ⟨c1, c2⟩
                        simp [this]
                      · simp [c1]
                    · cases hq
                  · rfl
                rw [e2] at k; exact k
              refine ⟨_, rfl, _, _, rfl, rfl, _, rfl, ?_⟩
              by_cases c1 : 0 ≤ i
              · refine ifT (decide_eq_true c1) ⟨_, rfl, _, _, rfl, rfl, _, rfl, ?_⟩
                by_cases c2 : i < b
                · refine ifF (by simp [c2]) ?_
                  refine ⟨_, rfl, _, _, _, _, _, rfl, .ty _, q1.ty e, kit_ty (kit_str _), _, rfl, ?_⟩
                  cases q1 with
                  | str x =>
                    refine iteT ⟨_, rfl, _, rfl, rr, _, rfl, .inl ⟨kvs, Sum.inr x, RR.rd, rfl, rfl⟩, ?_⟩
                    have e2 : (valV kvs (Sum.inr x : Key)).isSome = pairB b ns (.tuple [.int i, .str x]) := by
                      rw [valV_in, RR.keys]
                      show _ = (decide (0 ≤ i) && decide (i < b) && decide (x ∈ ns))
                      simp [c1, c2]
                    rw [e2]; exact k
                  | _ => exact iteF k
                · exact ifT (by simp [c2]) (out fun h => c2 h.2)
              · refine ifF (decide_eq_false c1) ⟨_, rfl, ?_⟩
                exact iteT (out fun h => c1 h.1)
            | _ => exact iteT k
      · refine ifT (by simp; omega) ?_
        have e2 : pairB b ns (.tuple ds) = false := by
          unfold pairB pairOf
          split
          · rename_i q hq
            split at hq
            · rename_i h3
              cases h3
              exact absurd ln l2
            · cases hq
          · rfl
        rw [e2] at k; exact k
    | _ => exact iteT k
theorem scPWay : FnScope ["book", "name", "stem", "ring", "here", "pair"] ["book", "name", "stem", "ring"] (defScope sPWay) := ⟨rfl, rfl, rfl, by decide +kernel, rfl, by decide +kernel, by decide +kernel⟩
def sizeG : PyData → Nat
  | .tuple l => l.length
  | _ => 0
def spWayG (K : PySem.W.Frag) : Sp := fun vs H Q _ => ∃ (bk rr : Addr) (x : Str) (v1 v2 : V) (D1 D2 : PyData) (b : Int) (ns : List Str) (rws : List (List (Int × Str))) (kvs : List (Key × V)) (G G2 : Hp), vs = [.ref bk, .str x, v1, v2] ∧ RowsR K G H rr ns rws kvs ∧ BookOk b ns rws ∧ G bk = some (.tup [.int b, .ref rr]) ∧ x ∈ ns ∧
  Same G2 H ∧ Dq K G2 v1 D1 ∧ Dq K G2 v2 D2 ∧ sizeG D1 + sizeG D2 ≤ 100000 ∧ ∀ H', Same H H' → Q (.bl (okG (rowAt ns rws) x D1 D2)) H'
theorem ok_pway {f fPr fWh : Addr} {fd fdPr fdWh : FuncData} (F : Fun K "_is_way" "_is_way" sPWay f fd) (T : TxG mg)
    (FPr : Fun K "_is_pair" "_is_pair" sIsPair fPr fdPr) (bPr : Binds K fdPr ["book", "thing"] []) (gPr : mg "_is_pair" = some (.ref fPr))
    (FWh : Fun K "is_whole" "is_whole" sWhole fWh fdWh) (bWh : Binds K fdWh ["thing"] []) (gWh : mg "is_whole" = some (.ref fWh)) : FnOk P w K mg base CX0 3 f fd ["book", "name", "stem", "ring"] (spWayG K) := by
  have GPr : FnOk P w K mg base CX0 2 fPr fdPr ["book", "thing"] (spPairG K) := ok_ispair FPr T FWh bWh gWh
  refine F.ok scPWay (fun vs H Q E h => ?_) (fun cdv A outer s H vs Q E hr h => ?_)
  · obtain ⟨bk, rr, x, v1, v2, D1, D2, b, ns, rws, kvs, G, G2, rfl, _⟩ := h
    rfl
  · obtain ⟨bk, rr, x, v1, v2, D1, D2, b, ns, rws, kvs, G, G2, rfl, RR, B, gb, xin, e2, d1, d2, bd, k⟩ := h
    have hr2 := hr
    have hu1 := Nat.lt_trans (Nat.add_lt_add_left (show 1 < 64 by decide) _) hr.units
    have k0 := fun (h : okG (rowAt ns rws) x D1 D2 = false) H' s => h ▸ k H' s
    refine ⟨_, (pss_cons (ps_if (PW.pt (pw_or (pt_not (pt_val (pe_callB call_isi (by rfl) T.isi boot_isinstance (pa_cons (pv 2) (pa_cons (pe_bltn (v := .ty "tuple") (by rfl) T.tuple boot_tuple rfl) pa_nil))))) (pw_or (pt_not (pt_val (pe_callB call_isi (by rfl) T.isi boot_isinstance (pa_cons (pv 3) (pa_cons (pe_bltn (v := .ty "tuple") (by rfl) T.tuple boot_tuple rfl) pa_nil))))) (pw_or1 (pt_not (pt_truth (pv 3) (by intro _; rfl))))))) (pss_one (ps_ret pe_bl)) pss_nil)
      (pss_cons (ps_set (i := 4) scPWay.nd rfl (Or.inl rfl) (pv 1))
      (pss_cons (ps_for PassesOwn.never rfl (pi_tup (pe_op op_catG (pe_op op_catG (pv 2) (pv 3)) (pe_slice sl_tupG (pv 3) po_none (po_some pe_int)))) (pg_name (i := 5) scPWay.nd rfl (Or.inl rfl)) (pss_cons (ps_if (PW.pt (pw_or (pt_not (pt_val (pe_call GPr hr2 (by rfl) gPr FPr.kp bPr .nil pass0 (pa_cons (pv 0) (pa_cons (pv 5) pa_nil))))) (pw_or1 (pt_cmpR (op_notInT hr.units) (pv 5) (pe_dget hu1 (pe_ix ix_tup (pv 0) pe_int (fun _ _ => rfl)) (pv 4) (fun _ _ => rfl)) (by rfl))))) (pss_one (ps_ret pe_bl)) pss_nil)
      (pss_one (ps_set (i := 4) scPWay.nd rfl (Or.inl rfl) (pe_ix ix_tup (pv 5) pe_int (fun _ _ => rfl))))))
      (pss_one (ps_ret pe_bl))))), ?_⟩
    refine ⟨_, rfl, _, _, _, _, _, rfl, .ty _, d1.ty e2, kit_ty (kit_tuple _), _, rfl, ?_⟩
    cases d1 with
    | tup g1 q1 =>
      rename_i a1 as1 l1
      refine iteF ?_
      refine ⟨_, rfl, _, _, _, _, _, rfl, .ty _, d2.ty e2, kit_ty (kit_tuple _), _, rfl, ?_⟩
      cases d2 with
      | tup g2 q2 =>
        rename_i a2 as2 l2
        refine iteF ?_
        have ln1 := q1.len
        have ln2 := q2.len
        have bd2 : l1.length + l2.length ≤ 100000 := bd
        refine ⟨_, rfl, _, .inr (.inl ⟨as2, SqT.of (e2 _ _ g2), rfl⟩), ?_⟩
        cases he : as2.isEmpty with
        | true =>
          have : l2 = [] := List.length_eq_zero_iff.mp (by rw [← ln2]; exact List.length_eq_zero_iff.mpr (List.isEmpty_iff.mp he))
          subst this
          exact iteT (k0 rfl _ (Same.refl _))
        | false =>
          have ne2 : l2.isEmpty = false := by
            cases l2 with
            | nil => have : as2 = [] := List.length_eq_zero_iff.mp ln2
                     rw [this] at he; cases he
            | cons _ _ => rfl
          have eok : okG (rowAt ns rws) x (.tuple l1) (.tuple l2) = wayG (rowAt ns rws) x (l1 ++ l2 ++ l2.take 1) := by
            show (!l2.isEmpty && _) = _
            rw [ne2]; rfl
          rw [eok] at k
          clear k0 eok
          refine iteF ?_
          refine ⟨_, rfl, ?_⟩
          refine ⟨_, rfl, _, rfl, G2, a1, a2, as1, as2, rfl, rfl, e2, g1, g2, by rw [sizeLine_eq]; omega, fun c1 G3 H3 m3 hc1 => ?_⟩
          refine ⟨_, rfl, 1, rfl, G3, a2, as2, rfl, m3.gh, m3.gg _ _ g2, fun c2 G4 H4 m4 hc2 => ?_⟩
          have ct := cut_takeV as2 1
          rw [show ((1 : Nat) : Int) = 1 from rfl] at ct
          rw [ct] at hc2
          refine ⟨G4, c1, c2, as1 ++ as2, as2.take 1, rfl, rfl, m4.gh, m4.gg _ _ hc1, hc2, by rw [List.length_append, List.length_take, sizeLine_eq]; omega, fun c G5 H5 m5 hc => ?_⟩
          have m35 := (m3.trans m4).trans m5
          have RR5 := RR.more m35.hh
          have qall : DqAll K G5 (as1 ++ as2 ++ as2.take 1) (l1 ++ l2 ++ l2.take 1) := ((q1.append q2).append (q2.take 1)).mono m35.gg
          generalize as1 ++ as2 ++ as2.take 1 = vs at hc qall
          generalize l1 ++ l2 ++ l2.take 1 = ps at qall k
          have lv := qall.len
          refine ⟨c, rfl, ⟨_, SqT.of (m5.gh _ _ hc)⟩, for_tup (K := K) (a := c) (xs := vs) (fun i σ H6 => ∃ (y : Str) (y5 : Option V), σ = [some (.ref bk), some (.str x), some (.ref a1), some (.ref a2), some (.str y), y5] ∧ y ∈ ns ∧ Same H5 H6 ∧ wayG (rowAt ns rws) x ps = wayG (rowAt ns rws) y (ps.drop i)) ⟨x, none, rfl, xin, Same.refl _, rfl⟩ (fun i σ H6 _ q => SqT.of (by obtain ⟨_, _, _, _, q, _⟩ := q; exact q _ _ (m5.gh _ _ hc))) ?_ ?_⟩
          · rintro i u σ H6 hu ⟨y, y5, rfl, yin, s6, ew⟩
            obtain ⟨p, hp, dp⟩ := qall.get hu
            have hi : i < ps.length := (List.getElem?_eq_some_iff.mp hp).1
            have ed : ps.drop i = p :: ps.drop (i + 1) := by
              rw [List.drop_eq_getElem_cons hi]
              have := List.getElem?_eq_getElem hi
              rw [hp] at this
              rw [Option.some.inj this]
            rw [ed] at ew
            have RR6 := RR5.more s6
            have sH : Same H H6 := m35.hh.trans s6
            refine ⟨_, rfl, _, rfl, bk, rr, u, p, b, ns, rws, kvs, G, G5, rfl, RR6, gb, m5.gh.trans s6, dp, _, rfl, ?_⟩
            have bad : stepG (rowAt ns rws) y p = none → Q (.bl false) H6 := fun h => by
              have e3 : wayG (rowAt ns rws) y (p :: ps.drop (i + 1)) = false := by
                show (match stepG (rowAt ns rws) y p with | some z => _ | none => false) = false
                rw [h]
              rw [e3] at ew
              have := k H6 sH
              rw [ew] at this; exact this
            cases hpb : pairB b ns p with
            | false =>
              refine iteT (bad ?_)
              cases hs : stepG (rowAt ns rws) y p with
              | none => rfl
              | some z =>
                obtain ⟨_, _, _, _, h5⟩ := stepG_pair B hs
                rw [hpb] at h5; cases h5
            | true =>
              refine iteF ?_
              obtain ⟨q, rfl⟩ : ∃ q, p = pairP q := by
                unfold pairB at hpb
                cases e : pairOf p with
                | none => rw [e] at hpb; cases hpb
                | some q => exact ⟨q, pairOf_some e⟩
              obtain ⟨vr, dg, dqr⟩ := RR6.row yin
              have qin : q.2 ∈ ns := by
                have h9 : inBk b ns q = true := hpb
                unfold inBk at h9
                simp at h9
                exact h9.2
              have lq : Lets (tl q.2) := (B.ok _ qin).lets
              obtain ⟨cu, rfl, gcu⟩ : ∃ cu, u = .ref cu ∧ G5 cu = some (.tup (pv2 q)) := by
                cases dp with
                | tup t1 t2 =>
                  cases t2 with
                  | cons w1 w2 =>
                    cases w2 with
                    | cons w3 w4 =>
                      cases w4
                      cases w1
                      cases w3
                      exact ⟨_, rfl, t1⟩
              have hcu := s6 _ _ (m5.gh _ _ gcu)
              refine ⟨_, rfl, _, rfl, bk, _, 1, .ref rr, rfl, rfl, SqT.of (RR6.same _ _ gb), atI_nat (j := 1) rfl, _, rfl, rr, vr, rfl, dg, ?_⟩
              refine ⟨pairP q, (rowAt ns rws y).map pairP, dp_pair hcu, dp_row dqr RR6.same, shaped_pair lq, shaped_row fun q' hq' => (B.ok _ (B.inb hq').2.2).lets, by simp [pairP, PyData.depth, PyData.depthAll], _, rfl, ?_⟩
              rw [any_pair2]
              by_cases hin : q ∈ rowAt ns rws y
              · refine ifF (by simp [hin]) ?_
                refine ⟨_, rfl, cu, _, 1, .str q.2, rfl, rfl, SqT.of hcu, atI_nat (j := 1) rfl, q.2, _, rfl, qin, s6, ?_⟩
                rw [ew]
                show (match stepG (rowAt ns rws) y (pairP q) with | some z => wayG (rowAt ns rws) z (ps.drop (i + 1)) | none => false) = _
                rw [stepG_eq, if_pos hin]
              · refine ifT (by simp [hin]) (bad ?_)
                rw [stepG_eq, if_neg hin]
          · rintro σ H6 ⟨y, y5, rfl, yin, s6, ew⟩
            rw [lv, List.drop_length] at ew
            have := k H6 (m35.hh.trans s6)
            rw [ew] at this
            exact this
      | _ => exact iteT (k0 rfl _ (Same.refl _))
    | _ => exact iteT (k0 (by rfl) _ (Same.refl _))
end
end My

set_option linter.all false
namespace My
open PySem PySem.Spec PyProof.Rows L2
/-! ### the law's own look at ways of anything -/
/-- data that may be looked for in a row -/
def flatD : PyData → Bool
  | .none | .bool _ | .int _ => true
  | .str x => PyData.strOk x
  | _ => false
def FineG : PyData → Prop
  | .tuple l => ∀ e0 e1, PyData.tuple [e0, e1] ∈ l → flatD e0 = true ∧ flatD e1 = true
  | _ => True
theorem flatD_lay {d : PyData} (h : flatD d = true) : d.canLay0 = true ∧ d.depth = 0 := by
  cases d <;> simp_all [flatD, PyData.canLay0, PyData.depth]
theorem flat2 {e0 e1 : PyData} (h0 : flatD e0 = true) (h1 : flatD e1 = true) : SeqAt.shaped (.tuple [e0, e1]) = true ∧ PyData.depth (.tuple [e0, e1]) ≤ 10 := by
  obtain ⟨a0, b0⟩ := flatD_lay h0
  obtain ⟨a1, b1⟩ := flatD_lay h1
  unfold SeqAt.shaped
  simp only [PyData.canLay0, PyData.canLayAll0, PyData.depth, PyData.depthAll, a0, a1, b0, b1]
  decide
theorem flat_dp {K : PySem.W.Frag} {G H : Hp} {v : V} {d : PyData} (h : Dq K G v d) (f : flatD d = true) : Dp K H v d := by
  cases h with
  | non => exact .non
  | bl b => exact .bl b
  | int i => exact .int i
  | str x => exact .str x
  | _ => cases f
theorem eqv_pairG (a : Int × Str) {e0 e1 : PyData} (nb : isT "bool" e0 = false) (h : PyData.eqv (pairP a) (.tuple [e0, e1]) = true) : PyData.tuple [e0, e1] = pairP a := by
  obtain ⟨a1, a2⟩ := a
  unfold pairP at h ⊢
  have h : PyData.eqvAll [.int a1, .str a2] [e0, e1] = true := by simpa only [PyData.eqv] using h
  have h : (PyData.eqv (.int a1) e0 && (PyData.eqv (.str a2) e1 && PyData.eqvAll [] [])) = true := h
  obtain ⟨h0, h1⟩ := Bool.and_eq_true_iff.mp h
  obtain ⟨h1, _⟩ := Bool.and_eq_true_iff.mp h1
  have e0' : e0 = .int a1 := by
    cases e0 <;> simp [PyData.eqv, isT, tyN] at h0 nb <;> first | (subst h0; rfl) | simp_all
  have e1' : e1 = .str a2 := by
    cases e1 <;> simp [PyData.eqv] at h1 <;> first | (subst h1; rfl) | simp_all
  rw [e0', e1']
theorem any_step (f : Str → List (Int × Str)) (y : Str) {e0 e1 : PyData} (nb : isT "bool" e0 = false) : (((f y).map pairP).any fun z => PyData.eqv z (.tuple [e0, e1])) = (stepG f y (.tuple [e0, e1])).isSome := by
  cases hs : stepG f y (.tuple [e0, e1]) with
  | some z =>
    unfold stepG at hs
    cases e : pairOf (.tuple [e0, e1]) with
    | none => rw [e] at hs; cases hs
    | some q =>
      rw [e] at hs
      by_cases c : q ∈ f y
      · rw [pairOf_some e]
        show _ = true
        exact any_pair c
      · have h2 : (if q ∈ f y then some q.2 else none) = some z := hs
        rw [if_neg c] at h2; cases h2
  | none =>
    show _ = false
    rw [Bool.eq_false_iff]
    intro h
    obtain ⟨z, hz, h2⟩ := List.any_eq_true.mp h
    obtain ⟨q, hq, rfl⟩ := List.mem_map.mp hz
    have := eqv_pairG q nb h2
    rw [this, stepG_eq, if_pos hq] at hs
    cases hs
section
variable {X : Cx}
/-- a tuple and the empty one -/
def rEqE (K : PySem.W.Frag) : R2 := fun x y H Q => ∃ a b xs, x = .ref a ∧ y = .ref b ∧ SqT K H a xs ∧ SqT K H b [] ∧ Q (.bl xs.isEmpty) H
theorem op_eqE (hu : X.A.units + 64 < cLine) : OpR X (compareOp .Eq) (rEqE X.K) := by
  intro pins s σ H x y v u Q I rx ry h
  obtain ⟨a, b, xs, rfl, rfl, hx, hy, q⟩ := h
  obtain rfl := rx
  obtain rfl := ry
  obtain ⟨its, r1, t1, _⟩ := I.tuple hx
  obtain ⟨it2, r2, t2, _⟩ := I.tuple hy
  cases r2
  have hi := isEmpty_of r1
  have e := SeqAt.RcAt.tuples (A := X.A) (s := s) (e := fun _ => true) t1 t2 (Nat.lt_of_le_of_lt (Nat.le_add_right _ _) hu) (fun j h1 h2 => absurd h2 (by simp))
  refine e _ _ _ _ ?_
  have z : ((List.range (min its.toArray.size ([] : List Value).toArray.size)).all (fun _ => true) && its.toArray.size == ([] : List Value).toArray.size) = xs.isEmpty := by
    cases r1 <;> simp
  rw [z]
  exact ⟨.bl _, H, I, rfl, q⟩
end
def spWayH (K : PySem.W.Frag) : Sp := fun vs H Q _ => ∃ (bk rr : Addr) (x : Str) (v1 v2 : V) (D1 D2 : PyData) (b : Int) (ns : List Str) (rws : List (List (Int × Str))) (kvs : List (Key × V)) (G G2 : Hp), vs = [.ref bk, .str x, v1, v2] ∧ RowsR K G H rr ns rws kvs ∧ BookOk b ns rws ∧ G bk = some (.tup [.int b, .ref rr]) ∧ x ∈ ns ∧
  Same G2 H ∧ Dq K G2 v1 D1 ∧ Dq K G2 v2 D2 ∧ sizeG D1 + sizeG D2 ≤ 100000 ∧ FineG D1 ∧ FineG D2 ∧ ∀ H', Same H H' → Q (.bl (okG (rowAt ns rws) x D1 D2)) H'
section
variable {P : Program} {w : World} {K : PySem.W.Frag} {mg : Str → Option Value} {base : Heap}
theorem ok_iswayG {f : Addr} {fd : FuncData} (F : Fun K "_law_is_way" "_law_is_way" sIsWay f fd) (T : TxG mg) : FnOk P w K mg base CX0 1 f fd ["book", "name", "stem", "ring"] (spWayH K) := by
  refine F.ok scIsWay (fun vs H Q E h => ?_) (fun cdv A outer s H vs Q E hr h => ?_)
  · obtain ⟨bk, rr, x, v1, v2, D1, D2, b, ns, rws, kvs, G, G2, rfl, _⟩ := h
    rfl
  · obtain ⟨bk, rr, x, v1, v2, D1, D2, b, ns, rws, kvs, G, G2, rfl, RR, B, gb, xin, e2, d1, d2, bd, fn1, fn2, k⟩ := h
    have hu1 := Nat.lt_trans (Nat.add_lt_add_left (show 1 < 64 by decide) _) hr.units
    have k0 := fun (h : okG (rowAt ns rws) x D1 D2 = false) H' s => h ▸ k H' s
    refine ⟨_, (pss_cons (ps_set (i := 4) scIsWay.nd rfl (Or.inl rfl) (pe_ix ix_tup (pv 0) pe_int (fun _ _ => rfl)))
      (pss_cons (ps_if (PW.pt (pw_or (pt_not (pt_val (pe_callB call_isi (by rfl) T.isi boot_isinstance (pa_cons (pv 2) (pa_cons (pe_bltn (v := .ty "tuple") (by rfl) T.tuple boot_tuple rfl) pa_nil))))) (pw_or (pt_not (pt_val (pe_callB call_isi (by rfl) T.isi boot_isinstance (pa_cons (pv 3) (pa_cons (pe_bltn (v := .ty "tuple") (by rfl) T.tuple boot_tuple rfl) pa_nil))))) (pw_or1 (pt_cmpR (op_eqE hr.units) (pv 3) (pe_tup pa_nil) (nomark _)))))) (pss_one (ps_ret pe_bl)) pss_nil)
      (pss_cons (ps_set (i := 5) scIsWay.nd rfl (Or.inl rfl) (pv 1))
      (pss_cons (ps_for PassesOwn.never rfl (pi_tup (pe_op op_catG (pv 2) (pv 3))) (pg_name (i := 6) scIsWay.nd rfl (Or.inl rfl)) (pss_cons (ps_if (PW.pt (pw_or (pt_not (pt_val (pe_callB call_isi (by rfl) T.isi boot_isinstance (pa_cons (pv 6) (pa_cons (pe_bltn (v := .ty "tuple") (by rfl) T.tuple boot_tuple rfl) pa_nil))))) (pw_or (pt_cmpR op_ne (pe_callB call_len_seq (by rfl) T.len PySem.boot_len (pa_cons (pv 6) pa_nil)) pe_int (nomark _)) (pw_or (pt_val (pe_callB call_isi (by rfl) T.isi boot_isinstance (pa_cons (pe_ix ix_tup (pv 6) pe_int (fun _ _ => rfl)) (pa_cons (pe_bltn (v := .ty "bool") (by rfl) T.bool boot_bool rfl) pa_nil)))) (pw_or1 (pt_cmpR (op_notInT hr.units) (pv 6) (pe_dget hu1 (pv 4) (pv 5) (fun _ _ => rfl)) (by rfl))))))) (pss_one (ps_ret pe_bl)) pss_nil)
      (pss_one (ps_set (i := 5) scIsWay.nd rfl (Or.inl rfl) (pe_ix ix_tup (pv 6) pe_int (fun _ _ => rfl))))))
      (pss_one (ps_ret (pe_cmpR (op_inT hr.units) (pe_ix ix_tup (pv 3) pe_int (fun _ _ => rfl)) (pe_dget hu1 (pv 4) (pv 5) (fun _ _ => rfl)) (by rfl)))))))), ?_⟩
    refine ⟨_, rfl, bk, _, 1, .ref rr, rfl, rfl, SqT.of (RR.same _ _ gb), atI_nat (j := 1) rfl, ?_⟩
    refine ⟨_, rfl, _, _, _, _, _, rfl, .ty _, d1.ty e2, kit_ty (kit_tuple _), _, rfl, ?_⟩
    cases d1 with
    | tup g1 q1 =>
      rename_i a1 as1 l1
      refine iteF ?_
      refine ⟨_, rfl, _, _, _, _, _, rfl, .ty _, d2.ty e2, kit_ty (kit_tuple _), _, rfl, ?_⟩
      have d2' := d2
      cases d2 with
      | tup g2 q2 =>
        rename_i a2 as2 l2
        refine iteF ?_
        have ln1 := q1.len
        have ln2 := q2.len
        have bd2 : l1.length + l2.length ≤ 100000 := bd
        refine ⟨_, rfl, (by decide), fun tz ntz => ?_⟩
        have s1 : Same H (upd H tz (.tup [])) := Same.upd ntz
        refine ⟨a2, tz, as2, rfl, rfl, SqT.of ((e2.trans s1) _ _ g2), SqT.of upd_same, _, rfl, ?_⟩
        cases hl : l2 with
        | nil =>
          subst hl
          have : as2 = [] := List.length_eq_zero_iff.mp ln2
          subst this
          exact iteT (k0 rfl _ s1)
        | cons p0 r0 =>
          have ne2 : l2.isEmpty = false := by rw [hl]; rfl
          have eok : okG (rowAt ns rws) x (.tuple l1) (.tuple l2) = wayG (rowAt ns rws) x (l1 ++ l2 ++ l2.take 1) := by
            show (!l2.isEmpty && _) = _
            rw [ne2]; rfl
          rw [eok] at k
          clear k0 eok
          have na2 : as2.isEmpty = false := by
            cases as2 with
            | nil => rw [hl] at ln2; cases ln2
            | cons _ _ => rfl
          refine ifF na2 ?_
          refine ⟨_, rfl, ?_⟩
          refine ⟨_, rfl, _, rfl, G2, a1, a2, as1, as2, rfl, rfl, e2.trans s1, g1, g2, by rw [sizeLine_eq]; omega, fun c G5 H5 m5 hc => ?_⟩
          have RR5 := RR.more (s1.trans m5.hh)
          have qall : DqAll K G5 (as1 ++ as2) (l1 ++ l2) := (q1.append q2).mono m5.gg
          have fine : ∀ e0 e1, PyData.tuple [e0, e1] ∈ l1 ++ l2 → flatD e0 = true ∧ flatD e1 = true := fun e0 e1 hp => by
            rcases List.mem_append.mp hp with h | h
            · exact fn1 e0 e1 h
            · exact fn2 e0 e1 h
          have hd2 : (l1 ++ l2)[l1.length]? = some p0 := by rw [List.getElem?_append_right (Nat.le_refl _), Nat.sub_self, hl]; rfl
          have tk : l2.take 1 = [p0] := by rw [hl]; rfl
          rw [tk] at k
          have g2' : G5 a2 = some (.tup as2) := m5.gg _ _ g2
          have q2' : DqAll K G5 as2 l2 := q2.mono m5.gg
          have hlen : l1.length < (l1 ++ l2).length := by rw [List.length_append, hl, List.length_cons]; omega
          generalize l1 ++ l2 = ps at qall k fine hd2 hlen
          generalize as1 ++ as2 = vs at hc qall
          have lv := qall.len
          refine ⟨c, rfl, ⟨_, SqT.of (m5.gh _ _ hc)⟩, for_tup (K := K) (a := c) (xs := vs) (fun i σ H6 => ∃ (y : Str) (y6 : Option V), σ = [some (.ref bk), some (.str x), some (.ref a1), some (.ref a2), some (.ref rr), some (.str y), y6] ∧ y ∈ ns ∧ Same H5 H6 ∧ wayG (rowAt ns rws) x (ps ++ [p0]) = wayG (rowAt ns rws) y (ps.drop i ++ [p0]) ∧ ∀ j p, j < i → ps[j]? = some p → ∃ q, p = pairP q ∧ q.2 ∈ ns) ⟨x, none, rfl, xin, Same.refl _, rfl, fun j p h => absurd h (Nat.not_lt_zero _)⟩ (fun i σ H6 _ q => SqT.of (by obtain ⟨_, _, _, _, q, _⟩ := q; exact q _ _ (m5.gh _ _ hc))) ?_ ?_⟩
          · rintro i u σ H6 hu ⟨y, y6, rfl, yin, s6, ew, prs⟩
            obtain ⟨p, hp, dp⟩ := qall.get hu
            have hi : i < ps.length := (List.getElem?_eq_some_iff.mp hp).1
            have ed : ps.drop i = p :: ps.drop (i + 1) := by
              rw [List.drop_eq_getElem_cons hi]
              have := List.getElem?_eq_getElem hi
              rw [hp] at this
              rw [Option.some.inj this]
            rw [ed] at ew
            have RR6 := RR5.more s6
            have sH : Same H H6 := (s1.trans m5.hh).trans s6
            have bad : stepG (rowAt ns rws) y p = none → Q (.bl false) H6 := fun h => by
              have e3 : wayG (rowAt ns rws) y (p :: ps.drop (i + 1) ++ [p0]) = false := by
                show (match stepG (rowAt ns rws) y p with | some z => _ | none => false) = false
                rw [h]
              rw [e3] at ew
              have := k H6 sH
              rw [ew] at this; exact this
            have g6 : Same G5 H6 := m5.gh.trans s6
            refine ⟨_, rfl, _, _, _, _, _, rfl, .ty _, dp.ty g6, kit_ty (kit_tuple _), _, rfl, ?_⟩
            have dp' := dp
            cases dp with
            | tup t1 t2 =>
              rename_i au us ds
              refine iteF ?_
              refine ⟨_, rfl, au, _, rfl, .inr (SqT.of (g6 _ _ t1)), rfl, _, rfl, ?_⟩
              have lu := t2.len
              by_cases l2' : us.length = 2
              · refine ifF (by simp [l2']) ?_
                obtain ⟨e0, e1, rfl⟩ : ∃ d0 d1, ds = [d0, d1] := by
                  match ds, (lu.symm.trans l2' : ds.length = 2) with
                  | [d0, d1], _ => exact ⟨d0, d1, rfl⟩
                cases t2 with
                | cons w0 t3 =>
                  cases t3 with
                  | cons w1 t4 =>
                    cases t4
                    rename_i u0 u1
                    refine ⟨_, rfl, au, _, 0, u0, rfl, rfl, SqT.of (g6 _ _ t1), atI_nat (j := 0) rfl, _, _, _, _, _, rfl, .ty _, w0.ty g6, kit_ty (kit_bool _), _, rfl, ?_⟩
                    obtain ⟨f0, f1⟩ := fine e0 e1 (List.mem_of_getElem? hp)
                    obtain ⟨sp, dpt⟩ := flat2 f0 f1
                    cases nb : isT "bool" e0 with
                    | true =>
                      refine iteT (bad ?_)
                      cases e0 with
                      | bool _ => rfl
                      | _ => cases nb
                    | false =>
                      refine iteF ?_
                      obtain ⟨vr, dg, dqr⟩ := RR6.row yin
                      refine ⟨_, rfl, _, rfl, _, rfl, rr, vr, rfl, dg, .tuple [e0, e1], (rowAt ns rws y).map pairP, Dp.tup (SqT.of (g6 _ _ t1)) (.cons (flat_dp w0 f0) (.cons (flat_dp w1 f1) .nil)), dp_row dqr RR6.same, sp, shaped_row fun q' hq' => (B.ok _ (B.inb hq').2.2).lets, dpt, _, rfl, ?_⟩
                      rw [any_step _ _ nb]
                      cases hs : stepG (rowAt ns rws) y (.tuple [e0, e1]) with
                      | none => exact iteT (bad hs)
                      | some z =>
                        refine iteF ?_
                        obtain ⟨q, eq1, hq, rfl, _⟩ := stepG_pair B hs
                        have eu1 : u1 = .str q.2 := by
                          unfold pairP at eq1
                          injection eq1 with eq1
                          injection eq1 with _ eq1
                          injection eq1 with eq1 _
                          rw [eq1] at w1
                          cases w1; rfl
                        refine ⟨_, rfl, au, _, 1, u1, rfl, rfl, SqT.of (g6 _ _ t1), atI_nat (j := 1) rfl, q.2, _, by rw [eu1]; rfl, (B.inb hq).2.2, s6, ?_, ?_⟩
                        · rw [ew]
                          show (match stepG (rowAt ns rws) y (.tuple [e0, e1]) with | some z => wayG (rowAt ns rws) z (ps.drop (i + 1) ++ [p0]) | none => false) = _
                          rw [hs]
                        · intro j p' hj hp'
                          rcases Nat.lt_succ_iff_lt_or_eq.mp hj with h | rfl
                          · exact prs j p' h hp'
                          · rw [hp] at hp'
                            obtain rfl := Option.some.inj hp'
                            exact ⟨q, eq1, (B.inb hq).2.2⟩
              · refine ifT (by simp; omega) (bad ?_)
                cases hs : stepG (rowAt ns rws) y (.tuple ds) with
                | none => rfl
                | some z =>
                  obtain ⟨q, eq1, _⟩ := stepG_pair B hs
                  unfold pairP at eq1
                  injection eq1 with eq1
                  rw [eq1] at lu
                  exact absurd lu l2'
            | _ => exact iteT (bad rfl)
          · rintro σ H6 ⟨y, y6, rfl, yin, s6, ew, prs⟩
            rw [lv, List.drop_length] at ew
            have kk := k H6 ((s1.trans m5.hh).trans s6)
            rw [ew] at kk
            obtain ⟨q0, rfl, qn⟩ := prs l1.length p0 (by rw [lv]; exact hlen) hd2
            have RR6 := RR5.more s6
            obtain ⟨vr, dg, dqr⟩ := RR6.row yin
            have lq : Lets (tl q0.2) := (B.ok _ qn).lets
            rw [hl] at q2'
            cases q2' with
            | cons w0 w1 =>
              rename_i v0 vr0
              have g6 : Same G5 H6 := m5.gh.trans s6
              have dpp : Dp K H6 v0 (pairP q0) := by
                cases w0 with
                | tup t1 t2 =>
                  cases t2 with
                  | cons x1 x2 =>
                    cases x2 with
                    | cons x3 x4 =>
                      cases x4
                      exact .tup (SqT.of (g6 _ _ t1)) (.cons (flat_dp x1 rfl) (.cons (flat_dp x3 (strOk_lets lq)) .nil))
              refine ⟨_, rfl, a2, _, 0, v0, rfl, rfl, SqT.of (g6 _ _ g2'), atI_nat (j := 0) rfl, _, rfl, _, rfl, rr, vr, rfl, dg, pairP q0, (rowAt ns rws y).map pairP, dpp, dp_row dqr RR6.same, shaped_pair lq, shaped_row fun q' hq' => (B.ok _ (B.inb hq').2.2).lets, by simp [pairP, PyData.depth, PyData.depthAll], ?_⟩
              rw [any_pair2]
              have e3 : wayG (rowAt ns rws) y [pairP q0] = decide (q0 ∈ rowAt ns rws y) := by
                show (match stepG (rowAt ns rws) y (pairP q0) with | some z => true | none => false) = _
                rw [stepG_eq]
                by_cases c : q0 ∈ rowAt ns rws y
                · rw [if_pos c, decide_eq_true c]
                · rw [if_neg c, decide_eq_false c]
              rw [List.nil_append, e3] at kk
              exact kk
      | _ => exact iteT (k0 rfl _ (Same.refl _))
    | _ => exact iteT (k0 (by rfl) _ (Same.refl _))
end
end My

set_option linter.all false
namespace My
open PySem PySem.Spec PyProof.Rows L2
/-! ### what is due, and the point by a way -/
abbrev sPoint : Stmt := topS 22
abbrev sDue : Stmt := topS 44
theorem wayG_pairs {f : Str → List (Int × Str)} : ∀ {l : List PyData} {x : Str}, wayG f x l = true → ∃ Pq : List (Int × Str), l = Pq.map pairP ∧ ∀ q ∈ Pq, ∃ y, q ∈ f y
  | [], _, _ => ⟨[], rfl, fun _ h => nomatch h⟩
  | p :: r, x, h => by
    have h' : (match stepG f x p with | some y => wayG f y r | none => false) = true := h
    cases hs : stepG f x p with
    | none => rw [hs] at h'; cases h'
    | some y =>
      rw [hs] at h'
      obtain ⟨Pq, e, hp⟩ := wayG_pairs (l := r) (x := y) h'
      unfold stepG at hs
      cases e2 : pairOf p with
      | none => rw [e2] at hs; cases hs
      | some q =>
        rw [e2] at hs
        by_cases c : q ∈ f x
        · refine ⟨q :: Pq, by rw [List.map_cons, ← e, ← pairOf_some e2], fun z hz => ?_⟩
          rcases List.mem_cons.mp hz with rfl | hz
          · exact ⟨x, c⟩
          · exact hp z hz
        · have h2 : (if q ∈ f x then some q.2 else none) = some y := hs
          rw [if_neg c] at h2; cases h2
theorem okG_rows {b : Int} {ns : List Str} {rws : List (List (Int × Str))} (B : BookOk b ns rws) {x : Str} {D1 D2 : PyData} (h : okG (rowAt ns rws) x D1 D2 = true) :
    ∃ P1 P2 : List (Int × Str), D1 = rowD P1 ∧ D2 = rowD P2 ∧ P2 ≠ [] ∧ Digs b (P1.map (·.1)) ∧ Digs b (P2.map (·.1)) := by
  cases D1 with
  | tuple l1 =>
    cases D2 with
    | tuple l2 =>
      have h' : (!l2.isEmpty && wayG (rowAt ns rws) x (l1 ++ l2 ++ l2.take 1)) = true := h
      obtain ⟨h1, h2⟩ := Bool.and_eq_true_iff.mp h'
      obtain ⟨Pq, e, hp⟩ := wayG_pairs h2
      have e12 : l1 ++ l2 = (Pq.take (l1 ++ l2).length).map pairP := by
        rw [List.map_take, ← e, List.take_left' rfl]
      have hp' : ∀ q ∈ Pq.take (l1 ++ l2).length, ∃ y, q ∈ rowAt ns rws y := fun q hq => hp q (List.mem_of_mem_take hq)
      generalize Pq.take (l1 ++ l2).length = R at e12 hp'
      have e1 : l1 = (R.take l1.length).map pairP := by rw [List.map_take, ← e12, List.take_left' rfl]
      have e2 : l2 = (R.drop l1.length).map pairP := by rw [List.map_drop, ← e12, List.drop_left' rfl]
      have dg : ∀ T : List (Int × Str), (∀ q ∈ T, q ∈ R) → Digs b (T.map (·.1)) := fun T hT d hd => by
        obtain ⟨q, hq, rfl⟩ := List.mem_map.mp hd
        obtain ⟨y, hy⟩ := hp' q (hT q hq)
        have := B.inb hy
        exact ⟨this.1, this.2.1⟩
      refine ⟨R.take l1.length, R.drop l1.length, congrArg PyData.tuple e1, congrArg PyData.tuple e2, fun z => ?_, dg _ fun q hq => List.mem_of_mem_take hq, dg _ fun q hq => List.mem_of_mem_drop hq⟩
      rw [z] at e2
      rw [e2] at h1
      cases h1
    | _ => cases h
  | _ => cases h
theorem small_btG {b : Int} (b0 : 2 ≤ b) (b1 : b ≤ 10) {S R : List Int} (hl : S.length + R.length ≤ 900) : (bt b S R / gN (tp b S R) (bt b S R)).natAbs < 2 ^ 3900 := by
  have := wide_lt (pow_lt_2 b0 b1 S.length) (pow_sub_lt b0 b1 R.length)
  refine Nat.lt_of_le_of_lt (Int.natAbs_ediv_le_natAbs _ _) (Nat.lt_of_lt_of_le ?_ (Nat.pow_le_pow_right (n := 2) (i := 4 * S.length + 1 + (4 * R.length + 1)) (by decide) (by omega)))
  unfold bt
  exact this
def spDueG (K : PySem.W.Frag) : Sp := fun vs H Q _ => ∃ (bk rr : Addr) (x : Str) (v1 v2 : V) (D1 D2 : PyData) (b : Int) (ns : List Str) (rws : List (List (Int × Str))) (kvs : List (Key × V)) (G G2 : Hp), vs = [.ref bk, .str x, v1, v2] ∧ RowsR K G H rr ns rws kvs ∧ BookOk b ns rws ∧ G bk = some (.tup [.int b, .ref rr]) ∧ x ∈ ns ∧
  Same G2 H ∧ Dq K G2 v1 D1 ∧ Dq K G2 v2 D2 ∧ sizeG D1 + sizeG D2 ≤ 900 ∧ FineG D1 ∧ FineG D2 ∧ (okG (rowAt ns rws) x D1 D2 = false → ∀ H', Same H H' → Q (.str "refused") H') ∧
  ∀ P1 P2, okG (rowAt ns rws) x D1 D2 = true → D1 = rowD P1 → D2 = rowD P2 → ∀ v H', Same H H' → Dq K H' v (frD b (P1.map (·.1)) (P2.map (·.1))) → Q v H'
/-- XK of a def that may refuse -/
def spPointX (K : PySem.W.Frag) (C : Addr) : Sp := fun vs H Q E => ∃ (bk rr : Addr) (x : Str) (v1 v2 : V) (D1 D2 : PyData) (b : Int) (ns : List Str) (rws : List (List (Int × Str))) (kvs : List (Key × V)) (G G2 : Hp), vs = [.ref bk, .str x, v1, v2] ∧ RowsR K G H rr ns rws kvs ∧ BookOk b ns rws ∧ G bk = some (.tup [.int b, .ref rr]) ∧ x ∈ ns ∧
  Same G2 H ∧ Dq K G2 v1 D1 ∧ Dq K G2 v2 D2 ∧ sizeG D1 + sizeG D2 ≤ 900 ∧ (okG (rowAt ns rws) x D1 D2 = false → ∀ H', Same H H' → E (.ref C) none H') ∧
  ∀ P1 P2, okG (rowAt ns rws) x D1 D2 = true → D1 = rowD P1 → D2 = rowD P2 → ∀ v H', Same H H' → Dq K H' v (frD b (P1.map (·.1)) (P2.map (·.1))) → Q v H'
section
variable {P : Program} {w : World} {K : PySem.W.Frag} {mg : Str → Option Value} {base : Heap}
theorem scDue : FnScope ["book", "name", "stem", "ring", "pair"] ["book", "name", "stem", "ring"] (defScope sDue) := ⟨rfl, rfl, rfl, by decide +kernel, rfl, by decide +kernel, by decide +kernel⟩
theorem headsD {src : TE} {a : Addr} {as : List V} {PP : List (Int × Str)} {G H3 : Hp} {x0 x1 x2 x3 x4 : Option V} (hsrc : ∀ Q : VK, Q (.ref a) H3 → src [x0, x1, x2, x3, x4] H3 Q)
    (e : Same G H3) (ga : G a = some (.tup as)) (lp : as.length = PP.length) (at' : ∀ (i : Nat) (q : Int × Str), PP[i]? = some q → ∃ c, as[i]? = some (.ref c) ∧ G c = some (.tup (pv2 q))) (lb : PP.length ≤ 8000) (Q0 : V → Hp → Prop)
    (q0 : ∀ E H4, Same H3 H4 → H3 E = none → H4 E = some (.lst ((PP.map (·.1)).map V.int)) → Q0 (.ref E) H4) :
    tLc (L2.iTup K src) (gName 4) tYes (tOp (rIxT K) (tVar 4) (tC (.int 0))) [4] [x0, x1, x2, x3, x4] H3 Q0 := by
  refine hsrc _ ⟨a, rfl, ⟨_, SqT.of (e _ _ ga)⟩, fun E nE => ?_⟩
  refine lc_it (walk_tup (K := K) (a := a) (xs := as)) (fun i Hi => Same H3 Hi ∧ Hi E = some (.lst (((PP.take i).map (·.1)).map V.int))) ⟨Same.upd nE, upd_same⟩ (fun i Hi _ z => SqT.of (z.1 _ _ (e _ _ ga))) ?_ ?_
  · rintro i u Hi Hj hi ⟨si, hE⟩ ⟨rfl, hu⟩
    have hi2 : i < PP.length := by omega
    obtain ⟨c, hc, gc⟩ := at' i _ (List.getElem?_eq_getElem hi2)
    obtain rfl : u = .ref c := Option.some.inj (hu.symm.trans hc)
    have tk : PP.take (i + 1) = PP.take i ++ [PP[i]] := by rw [List.take_add_one, List.getElem?_eq_getElem hi2]; rfl
    rw [tk]
    generalize PP[i] = q at gc tk ⊢
    refine ⟨rfl, ?_⟩
    unfold tYes
    dsimp only
    rw [if_pos rfl]
    refine ⟨_, rfl, c, _, 0, .int q.1, rfl, rfl, SqT.of (si _ _ (e _ _ gc)), atI_nat (j := 0) rfl, ?_⟩
    refine ⟨_, hE, by rw [List.length_map, List.length_map, List.length_take, sizeLine_eq]; omega, fun c' o hc' => ?_, ?_⟩
    · rw [upd_ne (ne_of_none hc' nE)]; exact si c' o hc'
    · rw [upd_same, List.map_append, List.map_append]; rfl
  · rintro Hi ⟨si, hE⟩
    rw [lp, List.take_length] at hE
    exact q0 E Hi si nE hE
theorem ok_due {f fIw fWo : Addr} {fd fdIw fdWo : FuncData} (F : Fun K "_law_due" "_law_due" sDue f fd) (T : TxG mg)
    (FIw : Fun K "_law_is_way" "_law_is_way" sIsWay fIw fdIw) (bIw : Binds K fdIw ["book", "name", "stem", "ring"] []) (gIw : mg "_law_is_way" = some (.ref fIw))
    (FWo : Fun K "_law_worth" "_law_worth" sWorth fWo fdWo) (GWo : FnOk P w K mg base CX0 2 fWo fdWo ["base", "stem", "ring"] (spWorth2 K)) (bWo : Binds K fdWo ["base", "stem", "ring"] []) (gWo : mg "_law_worth" = some (.ref fWo)) : FnOk P w K mg base CX0 3 f fd ["book", "name", "stem", "ring"] (spDueG K) := by
  have GIw : FnOk P w K mg base CX0 1 fIw fdIw ["book", "name", "stem", "ring"] (spWayH K) := ok_iswayG FIw T
  refine F.ok scDue (fun vs H Q E h => ?_) (fun cdv A outer s H vs Q E hr h => ?_)
  · obtain ⟨bk, rr, x, v1, v2, D1, D2, b, ns, rws, kvs, G, G2, rfl, _⟩ := h
    rfl
  · obtain ⟨bk, rr, x, v1, v2, D1, D2, b, ns, rws, kvs, G, G2, rfl, RR, B, gb, xin, e2, d1, d2, bd, fn1, fn2, kn, ky⟩ := h
    have hr2 := hr
    have hr1 : Room 1 _ := hr.mono (by decide)
    refine ⟨_, (pss_cons (ps_if (pt_not (pt_val (pe_call GIw hr1 (by rfl) gIw FIw.kp bIw .nil pass0 (pa_cons (pv 0) (pa_cons (pv 1) (pa_cons (pv 2) (pa_cons (pv 3) pa_nil))))))) (pss_one (ps_ret pe_str)) pss_nil)
      (pss_one (ps_ret (pe_call GWo hr2 (by rfl) gWo FWo.kp bWo .nil pass0 (pa_cons (pe_ix ix_tup (pv 0) pe_int (fun _ _ => rfl)) (pa_cons (pe_lc (own := [("pair", 4)]) (g := gName 4) (tt := tYes) rfl scDue.nd (pi_tup (pv 2)) (blkOk_by (N := ["book", "name", "stem", "ring", "pair"]) (sc := defScope sDue) (by decide +kernel)) (fun _ _ _ _ _ => (pg_name (i := 4) scDue.nd rfl (Or.inl rfl))) (fun _ _ _ _ _ => pts_nil) (fun _ _ _ _ _ => (pe_ix (show IxR _ (rIxT K) from ix_tup) (pv 4) pe_int (fun _ _ => rfl)))) (pa_cons (pe_lc (own := [("pair", 4)]) (g := gName 4) (tt := tYes) rfl scDue.nd (pi_tup (pv 3)) (blkOk_by (N := ["book", "name", "stem", "ring", "pair"]) (sc := defScope sDue) (by decide +kernel)) (fun _ _ _ _ _ => (pg_name (i := 4) scDue.nd rfl (Or.inl rfl))) (fun _ _ _ _ _ => pts_nil) (fun _ _ _ _ _ => (pe_ix (show IxR _ (rIxT K) from ix_tup) (pv 4) pe_int (fun _ _ => rfl)))) pa_nil))))))), ?_⟩
    refine ⟨_, rfl, _, rfl, _, rfl, _, rfl, bk, rr, x, v1, v2, D1, D2, b, ns, rws, kvs, G, G2, rfl, RR, B, gb, xin, e2, d1, d2, by omega, fn1, fn2, fun H1 s1 => ⟨_, rfl, ?_⟩⟩
    cases ho : okG (rowAt ns rws) x D1 D2 with
    | false => exact iteT (kn ho _ s1)
    | true =>
      refine iteF ?_
      obtain ⟨P1, P2, rfl, rfl, ne, g1, g2⟩ := okG_rows B ho
      have RR1 := RR.more s1
      obtain ⟨a1, as1, rfl, ga1, l1, at1⟩ := dq_row d1
      obtain ⟨a2, as2, rfl, ga2, l2, at2⟩ := dq_row d2
      have bd' : P1.length + P2.length ≤ 900 := by
        have : (P1.map fun q => PyData.tuple [.int q.1, .str q.2]).length + (P2.map fun q => PyData.tuple [.int q.1, .str q.2]).length ≤ 900 := bd
        rw [List.length_map, List.length_map] at this; exact this
      have lP : (P1.map (·.1)).length + (P2.map (·.1)).length ≤ 900 := by rw [List.length_map, List.length_map]; exact bd'
      refine ⟨_, rfl, bk, _, 0, .int b, rfl, rfl, SqT.of (RR1.same _ _ gb), atI_nat (j := 0) rfl, ?_⟩
      refine headsD (fun Q q => ⟨_, rfl, q⟩) (e2.trans s1) ga1 l1 at1 (by omega) _ fun E1 H3 s3 nE1 hE1 => ?_
      refine headsD (fun Q q => ⟨_, rfl, q⟩) ((e2.trans s1).trans s3) ga2 l2 at2 (by omega) _ fun E2 H4 s4 nE2 hE2 => ?_
      refine ⟨b, E1, E2, P1.map (·.1), P2.map (·.1), _, _, rfl, B.b0, B.b1, s4 _ _ hE1, hE2, fun z => ne (List.map_eq_nil_iff.mp z), g1, g2, by omega, rfl, small_btG B.b0 B.b1 lP, fun qa H5 s5 hq => ?_⟩
      exact ky P1 P2 ho rfl rfl _ _ (((s1.trans s3).trans s4).trans s5) (dq_mk (l := [_, _]) hq)
theorem scPoint : FnScope ["book", "name", "stem", "ring", "ahead", "around", "digit", "_"] ["book", "name", "stem", "ring"] (defScope sPoint) := ⟨rfl, rfl, rfl, by decide +kernel, rfl, by decide +kernel, by decide +kernel⟩
theorem ok_point {C f fPw fFo : Addr} {fd fdPw fdFo : FuncData} (F : Fun K "point_by" "point_by" sPoint f fd)
    (FPw : Fun K "_is_way" "_is_way" sPWay fPw fdPw) (GPw : FnOk P w K mg base CX0 3 fPw fdPw ["book", "name", "stem", "ring"] (spWayG K)) (bPw : Binds K fdPw ["book", "name", "stem", "ring"] []) (gPw : mg "_is_way" = some (.ref fPw))
    (FFo : Fun K "fraction_of" "fraction_of" sFractionOf fFo fdFo) (GFo : FnOk P w K mg base CX0 2 fFo fdFo ["base", "stem", "ring"] (spFractionOfL K)) (bFo : Binds K fdFo ["base", "stem", "ring"] []) (gFo : mg "fraction_of" = some (.ref fFo))
    (qC : PySem.W.excIn K C [.type "ValueError", .type "Exception", .type "BaseException", .type "object"] "ValueError.__new__" = true) (gC : mg "NoWay" = some (.ref C)) (kC : PySem.W.keepIn K (.ref C) = true) (sC : PySem.W.subIn K (.ref C) (.type "BaseException") = some true) (tC : PySem.W.typeIn K (.ref C) = some (.type "type")) :
    FnOk P w K mg base (L2.CX P w) 4 f fd ["book", "name", "stem", "ring"] (spPointX K C) := by
  refine F.okX scPoint (fun vs H Q E h => ?_) (fun cdv A outer s H vs Q E hr h => ?_)
  · obtain ⟨bk, rr, x, v1, v2, D1, D2, b, ns, rws, kvs, G, G2, rfl, _⟩ := h
    rfl
  · obtain ⟨bk, rr, x, v1, v2, D1, D2, b, ns, rws, kvs, G, G2, rfl, RR, B, gb, xin, e2, d1, d2, bd, kn, ky⟩ := h
    have hr3 := hr
    have hr2 : Room 2 _ := hr.mono (by decide)
    have rC := raises_own (X := cxOf (L2.CX P w) P w K mg base ["book", "name", "stem", "ring", "ahead", "around", "digit", "_"] "point_by" (defScope sPoint) f cdv A outer s H E) sC tC
    refine ⟨_, (pss_cons (ps_if (pt_not (pt_val (pe_call GPw hr3 (by rfl) gPw FPw.kp bPw .nil pass0 (pa_cons (pv 0) (pa_cons (pv 1) (pa_cons (pv 2) (pa_cons (pv 3) pa_nil))))))) (pss_one (ps_raise rfl (takes_of rfl rfl rfl rfl) (pmk_own PySem.F.excBase_ValueError qC gC kC rC (by rfl)))) pss_nil)
      (pss_cons (ps_setLc (i := 4) (own := [("digit", 6), ("_", 7)]) (g := gTup K 2 (gCons (gName 6) (gCons (gName 7) gNil))) (tt := tYes) rfl scPoint.nd rfl (by rfl) (sw_true (by rfl) (by rfl) (by rfl) (by rfl)) (pi_tup (pv 2)) (blkOk_by (N := ["book", "name", "stem", "ring", "ahead", "around", "digit", "_"]) (sc := defScope sPoint) (by decide +kernel)) (fun _ _ _ _ _ => (pg_tup (by rfl) (pgs_cons (pg_name (i := 6) scPoint.nd rfl (Or.inl rfl)) (pgs_cons (pg_name (i := 7) scPoint.nd rfl (Or.inl rfl)) pgs_nil)))) (fun _ _ _ _ _ => pts_nil) (fun _ _ _ _ _ => (pv 6)))
      (pss_cons (ps_setLc (i := 5) (own := [("digit", 6), ("_", 7)]) (g := gTup K 2 (gCons (gName 6) (gCons (gName 7) gNil))) (tt := tYes) rfl scPoint.nd rfl (by rfl) (sw_true (by rfl) (by rfl) (by rfl) (by rfl)) (pi_tup (pv 3)) (blkOk_by (N := ["book", "name", "stem", "ring", "ahead", "around", "digit", "_"]) (sc := defScope sPoint) (by decide +kernel)) (fun _ _ _ _ _ => (pg_tup (by rfl) (pgs_cons (pg_name (i := 6) scPoint.nd rfl (Or.inl rfl)) (pgs_cons (pg_name (i := 7) scPoint.nd rfl (Or.inl rfl)) pgs_nil)))) (fun _ _ _ _ _ => pts_nil) (fun _ _ _ _ _ => (pv 6)))
      (pss_one (ps_ret (pe_call GFo hr2 (by rfl) gFo FFo.kp bFo .nil pass0 (pa_cons (pe_ix ix_tup (pv 0) pe_int (fun _ _ => rfl)) (pa_cons (pv 4) (pa_cons (pv 5) pa_nil))))))))), ?_⟩
    refine ⟨_, rfl, _, rfl, _, rfl, _, rfl, bk, rr, x, v1, v2, D1, D2, b, ns, rws, kvs, G, G2, rfl, RR, B, gb, xin, e2, d1, d2, by omega, fun H1 s1 => ⟨_, rfl, ?_⟩⟩
    cases ho : okG (rowAt ns rws) x D1 D2 with
    | false => exact iteT (kn ho _ s1)
    | true =>
      refine iteF ?_
      obtain ⟨P1, P2, rfl, rfl, ne, g1, g2⟩ := okG_rows B ho
      have RR1 := RR.more s1
      obtain ⟨a1, as1, rfl, ga1, l1, at1⟩ := dq_row d1
      obtain ⟨a2, as2, rfl, ga2, l2, at2⟩ := dq_row d2
      have bd' : P1.length + P2.length ≤ 900 := by
        have : (P1.map fun q => PyData.tuple [.int q.1, .str q.2]).length + (P2.map fun q => PyData.tuple [.int q.1, .str q.2]).length ≤ 900 := bd
        rw [List.length_map, List.length_map] at this; exact this
      have lP : (P1.map (·.1)).length + (P2.map (·.1)).length ≤ 1000 := by rw [List.length_map, List.length_map]; omega
      have ge1 := e2.trans s1
      refine ⟨_, rfl, a1, rfl, ⟨_, SqT.of (ge1 _ _ ga1)⟩, fun E1 nE1 => lc_it (walk_tup (K := K) (a := a1) (xs := as1)) (fun i Hi => Same H1 Hi ∧ Hi E1 = some (.lst (((P1.take i).map (·.1)).map V.int))) ⟨Same.upd nE1, upd_same⟩ (fun i Hi _ z => SqT.of (z.1 _ _ (ge1 _ _ ga1))) ?_ ?_⟩
      · rintro i u Hi Hj hi ⟨si, hE⟩ ⟨rfl, hu⟩
        have hi2 : i < P1.length := by omega
        obtain ⟨c, hc, gc⟩ := at1 i _ (List.getElem?_eq_getElem hi2)
        obtain rfl : u = .ref c := Option.some.inj (hu.symm.trans hc)
        have tk : P1.take (i + 1) = P1.take i ++ [P1[i]] := by rw [List.take_add_one, List.getElem?_eq_getElem hi2]; rfl
        rw [tk]
        generalize P1[i] = q at gc tk ⊢
        refine ⟨c, _, rfl, SqT.of (si _ _ (ge1 _ _ gc)), rfl, _, _, rfl, _, _, rfl, rfl, rfl, ?_⟩
        unfold tYes
        dsimp only
        rw [if_pos rfl]
        refine ⟨_, rfl, ?_⟩
        refine ⟨_, hE, by rw [List.length_map, List.length_map, List.length_take, sizeLine_eq]; omega, fun c' o hc' => ?_, ?_⟩
        · rw [upd_ne (ne_of_none hc' nE1)]; exact si c' o hc'
        · rw [upd_same, List.map_append, List.map_append]; rfl
      rintro H3 ⟨s3, hE1⟩
      rw [l1, List.take_length] at hE1
      have ge3 := ge1.trans s3
      refine ⟨_, rfl, a2, rfl, ⟨_, SqT.of (ge3 _ _ ga2)⟩, fun E2 nE2 => lc_it (walk_tup (K := K) (a := a2) (xs := as2)) (fun i Hi => Same H3 Hi ∧ Hi E2 = some (.lst (((P2.take i).map (·.1)).map V.int))) ⟨Same.upd nE2, upd_same⟩ (fun i Hi _ z => SqT.of (z.1 _ _ (ge3 _ _ ga2))) ?_ ?_⟩
      · rintro i u Hi Hj hi ⟨si, hE⟩ ⟨rfl, hu⟩
        have hi2 : i < P2.length := by omega
        obtain ⟨c, hc, gc⟩ := at2 i _ (List.getElem?_eq_getElem hi2)
        obtain rfl : u = .ref c := Option.some.inj (hu.symm.trans hc)
        have tk : P2.take (i + 1) = P2.take i ++ [P2[i]] := by rw [List.take_add_one, List.getElem?_eq_getElem hi2]; rfl
        rw [tk]
        generalize P2[i] = q at gc tk ⊢
        refine ⟨c, _, rfl, SqT.of (si _ _ (ge3 _ _ gc)), rfl, _, _, rfl, _, _, rfl, rfl, rfl, ?_⟩
        unfold tYes
        dsimp only
        rw [if_pos rfl]
        refine ⟨_, rfl, ?_⟩
        refine ⟨_, hE, by rw [List.length_map, List.length_map, List.length_take, sizeLine_eq]; omega, fun c' o hc' => ?_, ?_⟩
        · rw [upd_ne (ne_of_none hc' nE2)]; exact si c' o hc'
        · rw [upd_same, List.map_append, List.map_append]; rfl
      rintro H4 ⟨s4, hE2⟩
      rw [l2, List.take_length] at hE2
      have RR4 := (RR1.more s3).more s4
      refine ⟨_, rfl, bk, _, 0, .int b, rfl, rfl, SqT.of (RR4.same _ _ gb), atI_nat (j := 0) rfl, _, rfl, _, rfl, ?_⟩
      exact ⟨b, E1, E2, P1.map (·.1), P2.map (·.1), rfl, B.b0, B.b1, s4 _ _ hE1, hE2, fun z => ne (List.map_eq_nil_iff.mp z), g1, g2, lP, fun v H5 s5 dv => ky P1 P2 ho rfl rfl _ _ (((s1.trans s3).trans s4).trans s5) dv⟩
end
end My

set_option linter.all false
namespace My
open PySem PySem.Spec PyProof.Rows L2
/-! ### what is told, or refused -/
abbrev sTold : Stmt := topS 42
def rIsKT (K : PySem.W.Frag) : List V → Hp → VK → Prop := fun xs H Q => ∃ (a D : Addr) (d : Option Addr) (tp : Addr) (cs : List V) (us : List Value) (b : Bool), xs = [.ref a, .ref tp] ∧ ExI K D ∧ IsX H a D d ∧ HasD H d ∧ H tp = some (.tup cs) ∧ Paired ClsV cs us ∧ PySem.W.kitAny K (.ref D) us = some b ∧ Q (.bl b) H
section
variable {X : Cx}
theorem call_isKT : CallR X (.builtin "isinstance") (rIsKT X.K) := by
  intro pins s σ H xs us Q I r h
  obtain ⟨a, D, d, tp, cs, ws, b, rfl, T, hx, hd, hT, kk, e, q⟩ := h
  cases r with
  | cons r1 rr =>
    cases rr with
    | cons r2 rr =>
      cases rr
      cases r1
      rename_i u2
      cases (show u2 = Value.ref tp from r2)
      obtain ⟨ob, od, J⟩ := inst_at I hx hd
      obtain ⟨_, its, rv, o, h1, h2, n, h3⟩ := (show ObjOk X.prog X.w H s.heap tp (.tup cs) from I.hok tp _ hT)
      have e3 := ClsV.all kk rv
      subst e3
      obtain ⟨oc, od', dt, sl⟩ := o
      simp only at h2 h3
      subst h2 h3
      exact PySem.W.kia_tup (PySem.W.kitx_exc T.cl T.hg T.hk T.hs T.ha T.hn T.ht T.hm) I.kIn J h1 e (fun z => nomatch z) fun tk => ⟨.bl b, H, I.kept (t' := tk) fun _ _ z => z, rfl, q⟩
end
theorem _root_.L2.Room.repr {k : Nat} {A : Around} (r : Room k A) : A.units + 111 < cLine := by have := r.un; omega
/-- a def that is called where no repr is under way -/
structure FnG (P : Program) (w : World) (K : PySem.W.Frag) (mg : Str → Option Value) (base : Heap) (k : Nat) (f : Addr) (fd : FuncData) (ps : List Str) (sp : Sp) : Prop where
  len : ∀ vs H Q E, sp vs H Q E → vs.length = ps.length
  run : ∀ (A : Around) (out : List Env) (s : Shared) (H : Hp) (args : Args) (us : List Value) (vs : List V) (Q : VK) (E : XK), A.guards = some [] → Room k A → Env0 P w K mg base A out s H → BindsTo s fd args (ps.zip us) → Vals vs us → sp vs H Q E →
    codeAny (model P w) A (.call (.ref f) args) (CR CX0 out P w H s Q E) s
theorem fng_ok {P : Program} {w : World} {K : PySem.W.Frag} {mg : Str → Option Value} {base : Heap} {x qual : Str} {st : Stmt} {f : Addr} {fd : FuncData} {N ps : List Str} {k : Nat} {sp : Sp} (F : Fun K x qual st f fd) (S : FnScope N ps (defScope st)) (len : ∀ vs H Q E, sp vs H Q E → vs.length = ps.length)
    (hbody : ∀ (cdv : Value) (A : Around) (out : List Env) (s : Shared) (H : Hp) (vs : List V) (Q : VK) (E : XK), A.guards = some [] → Room k (A.deeper (envOfC qual (defScope st) s.heap.objs.size f cdv)) → sp vs H Q E →
      ∃ t, PSs (cxOf CX0 P w K mg base N qual (defScope st) f cdv A out s H E).nox (defBody st) t ∧ t { nx := fun _ H' => Q .non H', rt := Q } (start N vs) H) : FnG P w K mg base (k + 1) f fd ps sp := by
  obtain ⟨oc, od, kV, doc, pm, an, cdv, ct, osl, rfl, lk, hcd⟩ := F.ex
  refine ⟨len, fun A out s H args us vs Q E hgd hr e0 hb r hsp => ?_⟩
  have hl := len _ _ _ _ hsp
  have KI : K.In s.heap := e0.mod.kin.keeps fun b o e => (e0.bs b o e).1
  have nl : s.heap.NoLimit := e0.mod.nolimit.keeps fun b o e => (e0.bs b o e).1
  have hk : ∀ y ∈ ps.zip us, (defScope st).names.lookup y.1 = some .local ∨ ((defScope st).names.lookup y.1 = some .cell ∧ ((cellsFrom (s.heap.objs.size + 1) (defScope st).names []).lookup y.1).isSome = true) := fun ⟨n, v⟩ hy => by
    rcases S.par n (List.of_mem_zip hy).1 with q | q
    · exact .inl q
    · exact .inr ⟨q, PySem.W.cellsFrom_some _ _ _ (.inl q)⟩
  refine codeAny_call_function hr.depth (KI _ _ lk) rfl S.co S.gen rfl (PySem.W.codeRec_of KI hcd) (hb _ _ _ _ ?_)
  refine wpAny_newFunctionEnv_cells S.kind hk fun env he s1 x => ?_
  subst he; refine ⟨nl.keeps x.toInCall.keep, codeAny_func ?_⟩
  obtain ⟨t, ht, hq⟩ := hbody cdv A out s H vs Q E hgd (hr.deeper _) hsp
  have I : Inv (cxOf CX0 P w K mg base N qual (defScope st) f cdv A out s H E) [] (start N vs) H s1 := inv_start S hr.hd e0 hl r x
  refine wpAny_mono (ht.nox.run [] s1 (start N vs) H _ I hq) (fun fl s' hs => ?_) fun e s' hs => hs
  have fin : ∀ {σ' : L2.St} {H' : Hp} {v : V} {u : Value}, Inv (cxOf CX0 P w K mg base N qual (defScope st) f cdv A out s H E) [] σ' H' s' → RelV v u → Q v H' → CE out P w H s Q u s' := fun {σ' H' v u} J rv q => ⟨v, H', J.os, J.bare, J.base, J.hok, rv, q⟩
  cases fl with
  | ret u => obtain ⟨v, σ', H', J, rv, q⟩ := hs; exact fin J rv q
  | next => obtain ⟨σ', H', J, q⟩ := hs; exact fin (v := V.non) (u := Value.none) J rfl q
  | brk => obtain ⟨_, _, _, q⟩ := hs; exact False.elim q
  | cont => obtain ⟨_, _, _, q⟩ := hs; exact False.elim q
section
variable {X : Cx} {k : Nat} {f : Addr} {fd : FuncData} {ps : List Str} {sp : Sp} {E : XK} {x : Str} {p pos : Pos} {e : Expr} {es : List Expr} {t : TA}
theorem pe_callG (F : FnG X.prog X.w X.K X.mg X.base k f fd ps sp) (hgd : X.A.guards = some []) (hr : Room k X.A) (hg : Gl X x) (hm : X.mg x = some (.ref f)) (hk : PySem.W.keepIn X.K (.ref f) = true) (hb : Binds X.K fd ps [])
    (ha : PA X (e :: es) t) (hdb : (x == ("__debug__" : Str)) = false := by decide) (he : starEach (e :: es) X.env = (false, eval e X.env) :: starEach es X.env := by rfl) (hpl : (backTo pos (starEach es X.env)).any (·.1) = false := by rfl) :
    PE X (.Call (.Name x p) (e :: es) [] pos) (tCall sp [] E0 t) := by
  refine ⟨fun pins s σ H Q I h => ?_⟩
  refine wpAny_Call_Name_kw (ld_glob I hg hm ?_ hdb)
  refine PySem.W.callWith_K (h₀ := X.base) I.ok.mod.kin hk (thn (ha.run pos pins s σ H _ I h) fun us s1 ⟨vs, H1, I1, r, q⟩ => ⟨I1.kIn, ?_⟩) he hpl
  have r2 : Vals (vs ++ []) (us ++ []) := r.append .nil
  have hl : (us ++ []).length = ps.length := by rw [← r2.length]; exact F.len _ _ _ _ q
  refine wpAny_call (codeAny_mono (F.run X.A X.stack s1 H1 ⟨us, []⟩ (us ++ []) (vs ++ []) Q E0 hgd hr I1.env0 (hb s1 us I1.kIn hl) r2 q) fun rr s' hq => ?_)
  cases rr with
  | error e => exact pass0 pins σ H1 s1 e s' I1 hq
  | ok fl =>
    cases fl with
    | ret u => exact I1.after hq
    | next => exact False.elim hq
    | brk => exact False.elim hq
    | cont => exact False.elim hq
end
structure ClT (K : PySem.W.Frag) (mg : Str → Option Value) (cs : List Addr) (D C : Addr) : Prop where
  mD : mg "DustError" = some (.ref D)
  mW : mg "NoWay" = some (.ref C)
  m0 : mg "Full" = some (.ref (cs.getD 0 0))
  m1 : mg "Held" = some (.ref (cs.getD 1 0))
  m2 : mg "NoBase" = some (.ref (cs.getD 2 0))
  m3 : mg "NoForm" = some (.ref (cs.getD 3 0))
  m4 : mg "NoName" = some (.ref (cs.getD 4 0))
  m5 : mg "NoRow" = some (.ref (cs.getD 5 0))
  m6 : mg "NoStretch" = some (.ref (cs.getD 6 0))
  m7 : mg "NoText" = some (.ref (cs.getD 7 0))
  m8 : mg "Ring" = some (.ref (cs.getD 8 0))
  m9 : mg "TooMany" = some (.ref (cs.getD 9 0))
  exm : PySem.W.exmOne K (.ref C) (.ref D) = some true
  ex : ExI K C
  kW : PySem.W.kitOne K (.ref C) (.ref C) = some true
  kV : PySem.W.kitOne K (.ref C) (.type "ValueError") = some true
  kO : PySem.W.kitAny K (.ref C) [.ref (cs.getD 0 0), .ref (cs.getD 1 0), .ref (cs.getD 2 0), .ref (cs.getD 3 0), .ref (cs.getD 4 0), .ref (cs.getD 5 0), .ref (cs.getD 6 0), .ref (cs.getD 7 0), .ref (cs.getD 8 0), .ref (cs.getD 9 0)] = some false
structure TxT (mg : Str → Option Value) : Prop where
  repr : mg "repr" = none
  isi : mg "isinstance" = none
  verr : mg "ValueError" = none
/-- data that may be shown -/
structure Shows (d : PyData) : Prop where
  sh : d.showable = true
  nl : d.hasDict = true → hasList d = false
  dp : d.depth ≤ 100
  ln : d.shown.length ≤ sizeLine
def spToldG (K : PySem.W.Frag) : Sp := fun vs H Q _ => ∃ (bk rr : Addr) (x : Str) (v1 v2 : V) (D1 D2 : PyData) (b : Int) (ns : List Str) (rws : List (List (Int × Str))) (kvs : List (Key × V)) (G G2 : Hp), vs = [.ref bk, .str x, v1, v2] ∧ RowsR K G H rr ns rws kvs ∧ BookOk b ns rws ∧ G bk = some (.tup [.int b, .ref rr]) ∧ x ∈ ns ∧
  Same G2 H ∧ Dq K G2 v1 D1 ∧ Dq K G2 v2 D2 ∧ sizeG D1 + sizeG D2 ≤ 900 ∧ Shows (.tuple [D1, D2]) ∧ (okG (rowAt ns rws) x D1 D2 = false → ∀ H', Same H H' → Q (.str "refused") H') ∧
  ∀ P1 P2, okG (rowAt ns rws) x D1 D2 = true → D1 = rowD P1 → D2 = rowD P2 → ∀ v H', Same H H' → Dq K H' v (frD b (P1.map (·.1)) (P2.map (·.1))) → Q v H'
section
variable {P : Program} {w : World} {K : PySem.W.Frag} {mg : Str → Option Value} {base : Heap}
theorem scTold : FnScope ["book", "name", "stem", "ring", "found", "caught", "before", "e", "others"] ["book", "name", "stem", "ring"] (defScope sTold) := ⟨rfl, rfl, rfl, by decide +kernel, rfl, by decide +kernel, by decide +kernel⟩
theorem ok_told {C D f fPt : Addr} {cs : List Addr} {fd fdPt : FuncData} (F : Fun K "_law_told" "_law_told" sTold f fd) (T : TxT mg) (M : ClT K mg cs D C)
    (FPt : Fun K "point_by" "point_by" sPoint fPt fdPt) (GPt : FnOk P w K mg base (L2.CX P w) 4 fPt fdPt ["book", "name", "stem", "ring"] (spPointX K C)) (bPt : Binds K fdPt ["book", "name", "stem", "ring"] []) (gPt : mg "point_by" = some (.ref fPt)) :
    FnG P w K mg base 5 f fd ["book", "name", "stem", "ring"] (spToldG K) := by
  refine fng_ok F scTold (fun vs H Q E h => ?_) (fun cdv A outer s H vs Q E hgd hr h => ?_)
  · obtain ⟨bk, rr, x, v1, v2, D1, D2, b, ns, rws, kvs, G, G2, rfl, _⟩ := h
    rfl
  · obtain ⟨bk, rr, x, v1, v2, D1, D2, b, ns, rws, kvs, G, G2, rfl, RR, B, gb, xin, e2, d1, d2, bd, S, kn, ky⟩ := h
    have hr4 := hr
    refine ⟨_, (pss_cons (ps_set (i := 4) scTold.nd rfl (Or.inl rfl) pe_non)
      (pss_cons (ps_set (i := 5) scTold.nd rfl (Or.inl rfl) pe_non)
      (pss_cons (ps_set (i := 6) scTold.nd rfl (Or.inl rfl) (pe_callB (cr_repr hgd hr.repr) (by rfl) T.repr boot_repr (pa_cons (pe_tup (pa_cons (pv 2) (pa_cons (pv 3) pa_nil))) pa_nil)))
      (pss_cons (ps_try_keep (i := 7) rfl rfl rfl scTold.nd rfl (by rfl) ⟨by rfl, by decide, .inl M.mD⟩
        (fun W pl xe tk ps => pss_one (ps_set (i := 4) scTold.nd rfl (Or.inl rfl) (pe_callS (E := L2.WE W) GPt hr4 (by rfl) gPt FPt.kp bPt (L2.passAt tk) (pa_cons (pv 0) (pa_cons (pv 1) (pa_cons (pv 2) (pa_cons (pv 3) pa_nil)))))))
        (fun a ob cls d pl z q => pss_one (ps_set (i := 5) scTold.nd rfl (Or.inl rfl) (pv 7))))
      (pss_cons (ps_if (pt_cmpR op_ne (pe_callB (cr_repr hgd hr.repr) (by rfl) T.repr boot_repr (pa_cons (pe_tup (pa_cons (pv 2) (pa_cons (pv 3) pa_nil))) pa_nil)) (pv 6) (nomark _)) (pss_one (ps_ret pe_str)) pss_nil)
      (pss_cons (ps_if (pt_cmpR op_isN (pv 5) pe_non (nomark _)) (pss_one (ps_ret (pv 4))) pss_nil)
      (pss_cons (ps_set (i := 8) scTold.nd rfl (Or.inl rfl) (pe_callB call_isKT (by rfl) T.isi boot_isinstance (pa_cons (pv 5) (pa_cons (pe_tup (pa_cons (pe_glob (v := .ref (cs.getD 0 0)) (by rfl) M.m0 rfl) (pa_cons (pe_glob (v := .ref (cs.getD 1 0)) (by rfl) M.m1 rfl) (pa_cons (pe_glob (v := .ref (cs.getD 2 0)) (by rfl) M.m2 rfl) (pa_cons (pe_glob (v := .ref (cs.getD 3 0)) (by rfl) M.m3 rfl) (pa_cons (pe_glob (v := .ref (cs.getD 4 0)) (by rfl) M.m4 rfl) (pa_cons (pe_glob (v := .ref (cs.getD 5 0)) (by rfl) M.m5 rfl) (pa_cons (pe_glob (v := .ref (cs.getD 6 0)) (by rfl) M.m6 rfl) (pa_cons (pe_glob (v := .ref (cs.getD 7 0)) (by rfl) M.m7 rfl) (pa_cons (pe_glob (v := .ref (cs.getD 8 0)) (by rfl) M.m8 rfl) (pa_cons (pe_glob (v := .ref (cs.getD 9 0)) (by rfl) M.m9 rfl) pa_nil))))))))))) pa_nil))))
      (pss_one (ps_ret (pe_ifExp (PW.pt (pw_and (pt_val (pe_callB call_isK (by rfl) T.isi boot_isinstance (pa_cons (pv 5) (pa_cons (pe_glob (v := .ref C) (by rfl) M.mW rfl) pa_nil)))) (pw_and (pt_not (pt_val (pv 8))) (pw_and1 (pt_val (pe_callB call_isK (by rfl) T.isi boot_isinstance (pa_cons (pv 5) (pa_cons (pe_bltn (v := .ty "ValueError") (by rfl) T.verr PyProof.Rows.Boot.«ValueError» rfl) pa_nil)))))))) pe_str pe_str)))))))))), ?_⟩
    have dqq : ∀ {H1 : Hp} {t : Addr}, Same G2 H1 → H1 t = none → Dq K (upd G2 t (.tup [v1, v2])) (.ref t) (.tuple [D1, D2]) ∧ Same (upd G2 t (.tup [v1, v2])) (upd H1 t (.tup [v1, v2])) := fun {H1 t} s1 nt => by
      have sg : Same G2 (upd G2 t (.tup [v1, v2])) := Same.upd (s1.free nt)
      refine ⟨.tup upd_same (.cons (d1.mono sg) (.cons (d2.mono sg) .nil)), fun c o hc => ?_⟩
      by_cases z : c = t
      · subst z; rw [upd_same] at hc ⊢; exact hc
      · rw [upd_ne z] at hc ⊢; exact s1 c o hc
    refine ⟨_, rfl, _, rfl, by show 2 ≤ sizeLine; decide, fun t nt => ?_⟩
    obtain ⟨q1, q2⟩ := dqq e2 nt
    refine ⟨.ref t, .tuple [D1, D2], _, rfl, q2, q1, S.sh, S.nl, S.dp, S.ln, ?_⟩
    generalize htx : (PyData.tuple [D1, D2]).shown = tx
    have s1 : Same H (upd H t (.tup [v1, v2])) := Same.upd nt
    generalize upd H t (.tup [v1, v2]) = H1 at s1
    refine ⟨_, rfl, _, rfl, _, rfl, _, rfl, bk, rr, x, v1, v2, D1, D2, b, ns, rws, kvs, G, G2, rfl, RR.more s1, B, gb, xin, e2.trans s1, d1, d2, bd, fun ho H2 s2 => ⟨M.exm, fun a na => ?_⟩, fun P1 P2 ho r1 r2 v H2 s2 dv => ?_⟩
    · have s3 : Same H2 (upd H2 a (ExK (.ref C) none a)) := Same.upd na
      have hx : (upd H2 a (ExK (.ref C) none a)) a = some (ExK (.ref C) none a) := upd_same
      have s13 := (s1.trans s2).trans s3
      refine ⟨_, rfl, ?_⟩
      refine ⟨_, rfl, _, rfl, by show 2 ≤ sizeLine; decide, fun t3 nt3 => ?_⟩
      generalize upd H2 a (ExK (.ref C) none a) = H3 at s3 hx s13 nt3
      obtain ⟨q3, q4⟩ := dqq (e2.trans s13) nt3
      refine ⟨.ref t3, .tuple [D1, D2], _, rfl, q4, q3, S.sh, S.nl, S.dp, S.ln, ?_⟩
      rw [htx]
      have s4 : Same H3 (upd H3 t3 (.tup [v1, v2])) := Same.upd nt3
      generalize upd H3 t3 (.tup [v1, v2]) = H4 at s4
      refine ⟨_, rfl, rfl, _, rfl, ifF (by simp) ?_⟩
      refine ⟨_, rfl, rfl, _, rfl, ifF (by rfl) ?_⟩
      refine ⟨_, rfl, by show 10 ≤ sizeLine; decide, fun t5 nt5 => ?_⟩
      have hx4 := s4 _ _ hx
      have s5 := Same.upd nt5 (o := .tup [V.ref (cs.getD 0 0), V.ref (cs.getD 1 0), V.ref (cs.getD 2 0), V.ref (cs.getD 3 0), V.ref (cs.getD 4 0), V.ref (cs.getD 5 0), V.ref (cs.getD 6 0), V.ref (cs.getD 7 0), V.ref (cs.getD 8 0), V.ref (cs.getD 9 0)])
      refine ⟨a, C, none, t5, _, _, false, rfl, M.ex, .inr (.inl (s5 _ _ hx4)), hasD_none, upd_same, .cons (.own _) (.cons (.own _) (.cons (.own _) (.cons (.own _) (.cons (.own _) (.cons (.own _) (.cons (.own _) (.cons (.own _) (.cons (.own _) (.cons (.own _) .nil))))))))), M.kO, ?_⟩
      have hx5 := s5 _ _ hx4
      have sall := (s13.trans s4).trans s5
      generalize upd H4 t5 _ = H5 at hx5 sall
      refine ⟨_, rfl, a, C, none, _, _, true, rfl, M.ex, .inr (.inl hx5), hasD_none, (fun _ r => r), M.kW, _, rfl, iteT ?_⟩
      refine ⟨_, rfl, _, rfl, iteT ?_⟩
      refine ⟨_, rfl, a, C, none, _, _, true, rfl, M.ex, .inr (.inl hx5), hasD_none, (fun _ r => r), M.kV, _, rfl, iteT ?_⟩
      exact kn ho _ sall
    · have s13 := s1.trans s2
      refine ⟨_, rfl, _, rfl, by show 2 ≤ sizeLine; decide, fun t3 nt3 => ?_⟩
      obtain ⟨q3, q4⟩ := dqq (e2.trans s13) nt3
      refine ⟨.ref t3, .tuple [D1, D2], _, rfl, q4, q3, S.sh, S.nl, S.dp, S.ln, ?_⟩
      rw [htx]
      have s4 : Same H2 (upd H2 t3 (.tup [v1, v2])) := Same.upd nt3
      generalize upd H2 t3 (.tup [v1, v2]) = H4 at s4
      refine ⟨_, rfl, rfl, _, rfl, ifF (by simp) ?_⟩
      refine ⟨_, rfl, rfl, _, rfl, ifT (by rfl) ?_⟩
      exact ⟨_, rfl, ky P1 P2 ho r1 r2 v _ (s13.trans s4) (dv.mono s4)⟩
end
end My

set_option linter.all false
namespace My
open PySem PySem.Spec PyProof.Rows L2
/-- the book stands there -/
structure Bk (K : PySem.W.Frag) (G H : Hp) (p bk rr : Addr) (b : Int) (ns : List Str) (rws : List (List (Int × Str))) : Prop where
  same : Same G H
  gp : G p = none
  gb : G bk = some (.tup [.int b, .ref rr])
  rows : RowsAt K G rr ns rws
  ok : BookOk b ns rws
theorem Bk.but {K : PySem.W.Frag} {G H H' : Hp} {p bk rr : Addr} {b : Int} {ns : List Str} {rws : List (List (Int × Str))} (h : Bk K G H p bk rr b ns rws) (e : But p H H') : Bk K G H' p bk rr b ns rws := ⟨same_but h.same h.gp e, h.gp, h.gb, h.rows, h.ok⟩
/-- what is read while the rows are walked -/
structure Rw (K : PySem.W.Frag) (G H : Hp) (p bk rr : Addr) (b : Int) (ns : List Str) (rws : List (List (Int × Str))) (kvs : List (Key × V)) : Prop where
  rows : RowsR K G H rr ns rws kvs
  ok : BookOk b ns rws
  gb : G bk = some (.tup [.int b, .ref rr])
  gp : G p = none
  rp : rr ≠ p
theorem Rw.but {K : PySem.W.Frag} {G H H' : Hp} {p bk rr : Addr} {b : Int} {ns : List Str} {rws : List (List (Int × Str))} {kvs : List (Key × V)} (h : Rw K G H p bk rr b ns rws kvs) (e : But p H H') : Rw K G H' p bk rr b ns rws kvs := ⟨h.rows.but h.rp h.gp e, h.ok, h.gb, h.gp, h.rp⟩
theorem Rw.more {K : PySem.W.Frag} {G H H' : Hp} {p bk rr : Addr} {b : Int} {ns : List Str} {rws : List (List (Int × Str))} {kvs : List (Key × V)} (h : Rw K G H p bk rr b ns rws kvs) (e : Same H H') : Rw K G H' p bk rr b ns rws kvs := h.but (But.of e)
theorem Rw.mv {K : PySem.W.Frag} {G H G' H' : Hp} {p bk rr : Addr} {b : Int} {ns : List Str} {rws : List (List (Int × Str))} {kvs : List (Key × V)} (h : Rw K G H p bk rr b ns rws kvs) (m : Mv p G H G' H') : Rw K G' H' p bk rr b ns rws kvs :=
  ⟨⟨rd_but h.rows.rd h.rp m.bt, h.rows.keys, h.rows.dq.mono m.gg, (m.old rr h.rp (rd_there h.rows.rd)).trans h.rows.gr, m.gh⟩, h.ok, m.gg _ _ h.gb, m.gp, h.rp⟩
theorem Rw.upd {K : PySem.W.Frag} {G H : Hp} {p bk rr D : Addr} {o : HO} {b : Int} {ns : List Str} {rws : List (List (Int × Str))} {kvs : List (Key × V)} (h : Rw K G H p bk rr b ns rws kvs) (ne : D ≠ rr) (gD : G D = none) : Rw K G (upd H D o) p bk rr b ns rws kvs :=
  ⟨⟨by
    rcases h.rows.rd with q | ⟨o', q⟩
    · exact .inl (by rw [upd_ne ne.symm]; exact q)
    · exact .inr ⟨o', by rw [upd_ne ne.symm]; exact q⟩, h.rows.keys, h.rows.dq, h.rows.gr, fun c o' hc => by rw [upd_ne (ne_of_none hc gD)]; exact h.rows.same c o' hc⟩, h.ok, h.gb, h.gp, h.rp⟩
theorem Rw.lock {K : PySem.W.Frag} {G H H1 : Hp} {p bk rr : Addr} {od : Obj} {b : Int} {ns : List Str} {rws : List (List (Int × Str))} {kvs : List (Key × V)} (h : Rw K G H p bk rr b ns rws kvs) (fr : H1 rr = some (.frz od (.dK kvs))) (a1 : ∀ a, a ≠ rr → H1 a = H a) : Rw K G H1 p bk rr b ns rws kvs := ⟨h.rows.lock fr a1, h.ok, h.gb, h.gp, h.rp⟩
theorem But.unlock {H H1 H' H'' : Hp} {p rr : Addr} (a1 : ∀ a, a ≠ rr → H1 a = H a) (s : But p H1 H') (a2 : ∀ a, a ≠ rr → H'' a = H' a) (e : H'' rr = H rr) : But p H H'' := fun a o n h => by
  by_cases z : a = rr
  · subst z; rw [e]; exact h
  · rw [a2 a z]; exact s a o n (by rw [a1 a z]; exact h)
theorem PenC.flip {H H1 : Hp} {p c rr : Addr} {t u : Nat} {kvs : List (Key × V)} (P : PenC H p c t) (rd : Rd H rr (.dK kvs)) (a1 : ∀ a, a ≠ rr → H1 a = H a) (h : t ≤ u) : PenC H1 p c u := by
  obtain ⟨cells, x, y, g1, g2, g3, g4⟩ := P.ex
  have h1 : p ≠ rr := fun e => by
    subst e
    rcases rd with q | ⟨o, q⟩ <;> (rw [g1] at q; cases q)
  have h2 : c ≠ rr := fun e => by
    subst e
    rcases rd with q | ⟨o, q⟩ <;> (rw [g2] at q; cases q)
  exact ⟨cells, x, y, by rw [a1 _ h1]; exact g1, by rw [a1 _ h2]; exact g2, g3, by omega⟩
theorem inV_false6 (n : Nat) : inV (.bl false) (List.replicate n (.bl true)) = false := by
  induction n with
  | zero => rfl
  | succ n ih => rw [List.replicate_succ]; unfold inV at ih ⊢; rw [List.any_cons, ih]; rfl
theorem flat_true6 (n : Nat) : (List.replicate n (V.bl true)).all flatV = true := List.all_eq_true.mpr fun x hx => by rw [(List.mem_replicate.mp hx).2]; rfl
theorem rep_snoc6 {α : Type} (u : α) (n : Nat) : List.replicate n u ++ [u] = List.replicate (n + 1) u := (List.replicate_succ' (n := n) (a := u)).symm
theorem del_but {p : Addr} {H H' : Hp} (b : But p H H') : Same (del H p) (del H' p) := fun a o h => by
  by_cases z : a = p
  · rw [z, del_at] at h; cases h
  · rw [del_ne z] at h ⊢; exact b a o z h
end My

set_option linter.all false
namespace My
open PySem PySem.Spec PyProof.Rows L2
/-! ### things with a part otherwise: how they are shown -/
structure Sf (B k : Nat) (hd hl : Bool) (d : PyData) : Prop where
  sh : d.showable = true
  ln : d.shown.length ≤ B
  dp : d.depth ≤ k
  fd : d.hasDict = true → hd = true
  fl : hasList d = true → hl = true
theorem Sf.up {B B' k k' : Nat} {hd hl : Bool} {d : PyData} (h : Sf B k hd hl d) (h1 : B ≤ B') (h2 : k ≤ k') : Sf B' k' hd hl d := ⟨h.sh, by have := h.ln; omega, by have := h.dp; omega, h.fd, h.fl⟩
theorem sf_shw {B k : Nat} {hd hl : Bool} {d : PyData} (h : Shw B k d) (n : d.hasDict = false) : Sf B k hd hl d := ⟨h.sh, h.ln, h.dp, (fun z => by rw [n] at z; cases z), (fun z => by rw [h.nl] at z; cases z)⟩
theorem hasDictAll_of : ∀ ds : List PyData, PyData.hasDictAll ds = true → ∃ d ∈ ds, d.hasDict = true
  | [], h => by simp only [PyData.hasDictAll] at h; cases h
  | d :: ds, h => by
    simp only [PyData.hasDictAll, Bool.or_eq_true] at h
    rcases h with h | h
    · exact ⟨d, List.mem_cons_self, h⟩
    · obtain ⟨e, he, h2⟩ := hasDictAll_of ds h
      exact ⟨e, List.mem_cons_of_mem _ he, h2⟩
theorem hasListAll_of : ∀ ds : List PyData, hasListAll ds = true → ∃ d ∈ ds, hasList d = true
  | [], h => by simp only [hasListAll] at h; cases h
  | d :: ds, h => by
    simp only [hasListAll, Bool.or_eq_true] at h
    rcases h with h | h
    · exact ⟨d, List.mem_cons_self, h⟩
    · obtain ⟨e, he, h2⟩ := hasListAll_of ds h
      exact ⟨e, List.mem_cons_of_mem _ he, h2⟩
theorem sf_tuple {B k n : Nat} {hd hl : Bool} {ds : List PyData} (h : ∀ d ∈ ds, Sf B k hd hl d) (hn : ds.length ≤ n) : Sf (n * (B + 2) + 3) (k + 1) hd hl (.tuple ds) := by
  refine ⟨by simp only [PyData.showable]; exact showAll_of ds fun d hd => (h d hd).sh, ?_, by simp only [PyData.depth]; have := depthAll_le k ds fun d hd => (h d hd).dp; omega, fun z => ?_, fun z => ?_⟩
  · simp only [PyData.shown]
    rw [shownAll_map]
    have := tupleText_le B (ds.map PyData.shown) fun t ht => by
      obtain ⟨d, hd, rfl⟩ := List.mem_map.mp ht
      exact (h d hd).ln
    rw [List.length_map] at this
    have := Nat.mul_le_mul_right (B + 2) hn
    omega
  · simp only [PyData.hasDict] at z
    obtain ⟨d, hm, h2⟩ := hasDictAll_of ds z
    exact (h d hm).fd h2
  · simp only [hasList] at z
    obtain ⟨d, hm, h2⟩ := hasListAll_of ds z
    exact (h d hm).fl h2
theorem listText_le (B : Nat) (ts : List Str) (h : ∀ t ∈ ts, t.length ≤ B) : (listText ts).length ≤ ts.length * (B + 2) + 3 := by
  have key : ∀ (ts : List Str) (k : Nat) (acc : Str), (∀ t ∈ ts, t.length ≤ B) → (textFrom k acc ts).length ≤ acc.length + ts.length * (B + 2) := by
    intro ts
    induction ts with
    | nil => intro k acc _; simp [textFrom]
    | cons t r ih =>
      intro k acc h
      have h1 := h t List.mem_cons_self
      have h2 := fun k acc => ih k acc fun x hx => h x (List.mem_cons_of_mem _ hx)
      unfold textFrom
      refine Nat.le_trans (h2 _ _) ?_
      have e2 : (((", " : String) : Str)).length = 2 := by decide
      have e0 : ((("" : String) : Str)).length = 0 := by decide
      rw [List.length_cons, Nat.succ_mul]
      split <;> simp only [lenap] <;> omega
  unfold listText
  have := key ts 0 "[" h
  have e1 : ((("[" : String) : Str)).length = 1 := by decide
  have e3 : ((("]" : String) : Str)).length = 1 := by decide
  rw [lenap]
  omega
theorem sf_list {B k n : Nat} {hd : Bool} {ds : List PyData} (h : ∀ d ∈ ds, Sf B k hd true d) (hn : ds.length ≤ n) : Sf (n * (B + 2) + 3) (k + 1) hd true (.list ds) := by
  refine ⟨by simp only [PyData.showable]; exact showAll_of ds fun d hd => (h d hd).sh, ?_, by simp only [PyData.depth]; have := depthAll_le k ds fun d hd => (h d hd).dp; omega, fun z => ?_, fun z => rfl⟩
  · simp only [PyData.shown]
    rw [shownAll_map]
    have := listText_le B (ds.map PyData.shown) fun t ht => by
      obtain ⟨d, hd, rfl⟩ := List.mem_map.mp ht
      exact (h d hd).ln
    rw [List.length_map] at this
    have := Nat.mul_le_mul_right (B + 2) hn
    omega
  · simp only [PyData.hasDict] at z
    obtain ⟨d, hm, h2⟩ := hasDictAll_of ds z
    exact (h d hm).fd h2
/-- a thing within a way, right or not -/
def ItmG (hd hl : Bool) (d : PyData) : Prop := Sf 8000 1 hd hl d ∧ ∀ e0 e1, d = .tuple [e0, e1] → flatD e0 = true ∧ flatD e1 = true
/-- a stem or a ring, right or not -/
def Part (hd hl : Bool) (D : PyData) : Prop := Sf 800000 2 hd hl D ∧ FineG D ∧ sizeG D ≤ 450
structure Fit (D1 D2 : PyData) : Prop where
  sz : sizeG D1 + sizeG D2 ≤ 900
  f1 : FineG D1
  f2 : FineG D2
  sh : Shows (.tuple [D1, D2])
theorem fit_of {hd hl : Bool} {D1 D2 : PyData} (h1 : Part hd hl D1) (h2 : Part hd hl D2) (n : (hd && hl) = false) : Fit D1 D2 := by
  obtain ⟨a1, b1, c1⟩ := h1
  obtain ⟨a2, b2, c2⟩ := h2
  have S := sf_tuple (n := 2) (ds := [D1, D2]) (fun d hm => by
    simp only [List.mem_cons, List.not_mem_nil, or_false] at hm
    rcases hm with rfl | rfl
    · exact a1
    · exact a2) (by simp)
  refine ⟨by omega, b1, b2, S.sh, fun z => ?_, by have := S.dp; omega, by have := S.ln; rw [sizeLine_eq]; omega⟩
  cases e : hasList (PyData.tuple [D1, D2]) with
  | false => rfl
  | true =>
    rw [S.fd z, S.fl e] at n
    cases n
theorem part_tup {hd hl : Bool} {l : List PyData} (h : ∀ d ∈ l, ItmG hd hl d) (hn : l.length ≤ 90) : Part hd hl (.tuple l) :=
  ⟨(sf_tuple (n := 90) (fun d hm => (h d hm).1) hn).up (by decide) (by decide), fun e0 e1 hm => (h _ hm).2 e0 e1 rfl, by show l.length ≤ 450; omega⟩
theorem part_lst {hd : Bool} {l : List PyData} (h : ∀ d ∈ l, ItmG hd true d) (hn : l.length ≤ 90) : Part hd true (.list l) :=
  ⟨(sf_list (n := 90) (fun d hm => (h d hm).1) hn).up (by decide) (by decide), trivial, by show 0 ≤ 450; omega⟩
theorem sf_bool {hd hl : Bool} (c : Bool) : Sf 10 0 hd hl (.bool c) := ⟨by simp only [PyData.showable], by cases c <;> decide, by simp only [PyData.depth]; omega, (fun z => by simp only [PyData.hasDict] at z; cases z), (fun z => by simp only [hasList] at z; cases z)⟩
theorem sf_none {hd hl : Bool} : Sf 10 0 hd hl .none := ⟨by simp only [PyData.showable], by decide, by simp only [PyData.depth]; omega, (fun z => by simp only [PyData.hasDict] at z; cases z), (fun z => by simp only [hasList] at z; cases z)⟩
theorem sf_int {hd hl : Bool} {i : Int} (h0 : 0 ≤ i) (h1 : i ≤ 10) : Sf 1921 0 hd hl (.int i) := sf_shw (shw_int h0 h1) (by simp only [PyData.hasDict])
theorem sf_str {hd hl : Bool} {x : Str} (h : NameOk x) : Sf 82 0 hd hl (.str x) := sf_shw (shw_str h) (by simp only [PyData.hasDict])
theorem sf_str0 {hd hl : Bool} : Sf 82 0 hd hl (.str "") := ⟨by simp only [PyData.showable], by decide +kernel, by simp only [PyData.depth]; omega, (fun z => by simp only [PyData.hasDict] at z; cases z), (fun z => by simp only [hasList] at z; cases z)⟩
theorem sf_strab {hd hl : Bool} : Sf 82 0 hd hl (.str "ab") := ⟨by simp only [PyData.showable], by decide +kernel, by simp only [PyData.depth]; omega, (fun z => by simp only [PyData.hasDict] at z; cases z), (fun z => by simp only [hasList] at z; cases z)⟩
theorem sf_dict0 {hl : Bool} : Sf 10 1 true hl (.dict []) := ⟨by simp only [PyData.showable, PyData.showableKv], by decide +kernel, by simp only [PyData.depth, PyData.depthKv]; omega, fun _ => rfl, (fun z => by simp only [hasList, hasListKv] at z; cases z)⟩
theorem flat_name {x : Str} (h : NameOk x) : flatD (.str x) = true := strOk_lets h.lets
theorem sf_two {hd hl : Bool} {a b : PyData} (h0 : Sf 1921 0 hd hl a) (h1 : Sf 1921 0 hd hl b) : Sf 8000 1 hd hl (.tuple [a, b]) :=
  (sf_tuple (n := 2) (fun d hm => by
    simp only [List.mem_cons, List.not_mem_nil, or_false] at hm
    rcases hm with rfl | rfl
    · exact h0
    · exact h1) (by simp)).up (by decide) (by decide)
theorem itm_two {hd hl : Bool} {a b : PyData} (h0 : Sf 1921 0 hd hl a) (h1 : Sf 1921 0 hd hl b) (f0 : flatD a = true) (f1 : flatD b = true) : ItmG hd hl (.tuple [a, b]) := ⟨sf_two h0 h1, fun e0 e1 e => by cases e; exact ⟨f0, f1⟩⟩
theorem itm_pair {hd hl : Bool} {q : Int × Str} (h0 : 0 ≤ q.1) (h1 : q.1 ≤ 10) (h : NameOk q.2) : ItmG hd hl (pairP q) := itm_two (sf_int h0 h1) ((sf_str h).up (by decide) (by decide)) rfl (flat_name h)
theorem itm_swap {hd hl : Bool} {q : Int × Str} (h0 : 0 ≤ q.1) (h1 : q.1 ≤ 10) (h : NameOk q.2) : ItmG hd hl (.tuple [.str q.2, .int q.1]) := itm_two ((sf_str h).up (by decide) (by decide)) (sf_int h0 h1) (flat_name h) rfl
theorem itm_bool {hd hl c : Bool} {x : Str} (h : NameOk x) : ItmG hd hl (.tuple [.bool c, .str x]) := itm_two ((sf_bool c).up (by decide) (by decide)) ((sf_str h).up (by decide) (by decide)) rfl (flat_name h)
theorem itm_one {hd hl : Bool} {i : Int} (h0 : 0 ≤ i) (h1 : i ≤ 10) : ItmG hd hl (.tuple [.int i]) :=
  ⟨(sf_tuple (n := 1) (fun d hm => by rw [List.mem_singleton.mp hm]; exact sf_int h0 h1) (by simp)).up (by decide) (by decide), fun e0 e1 e => by cases e⟩
theorem itm_three {hd hl : Bool} {q : Int × Str} (h0 : 0 ≤ q.1) (h1 : q.1 ≤ 10) (h : NameOk q.2) : ItmG hd hl (.tuple [.int q.1, .str q.2, .int 0]) :=
  ⟨(sf_tuple (n := 3) (B := 1921) (k := 0) (fun d hm => by
    simp only [List.mem_cons, List.not_mem_nil, or_false] at hm
    rcases hm with rfl | rfl | rfl
    · exact sf_int h0 h1
    · exact (sf_str h).up (by decide) (by decide)
    · exact sf_int (by decide) (by decide)) (by simp)).up (by decide) (by decide), fun e0 e1 e => by cases e⟩
theorem itm_list {hd : Bool} {q : Int × Str} (h0 : 0 ≤ q.1) (h1 : q.1 ≤ 10) (h : NameOk q.2) : ItmG hd true (.list [.int q.1, .str q.2]) :=
  ⟨(sf_list (n := 2) (B := 1921) (k := 0) (fun d hm => by
    simp only [List.mem_cons, List.not_mem_nil, or_false] at hm
    rcases hm with rfl | rfl
    · exact sf_int h0 h1
    · exact (sf_str h).up (by decide) (by decide)) (by simp)).up (by decide) (by decide), fun e0 e1 e => by cases e⟩
theorem itm_none {hd hl : Bool} : ItmG hd hl .none := ⟨sf_none.up (by decide) (by decide), fun _ _ e => by cases e⟩
theorem itm_int0 {hd hl : Bool} : ItmG hd hl (.int 0) := ⟨(sf_int (by decide) (by decide)).up (by decide) (by decide), fun _ _ e => by cases e⟩
theorem itm_str0 {hd hl : Bool} : ItmG hd hl (.str "") := ⟨sf_str0.up (by decide) (by decide), fun _ _ e => by cases e⟩
theorem itm_dict0 {hl : Bool} : ItmG true hl (.dict []) := ⟨sf_dict0.up (by decide) (by decide), fun _ _ e => by cases e⟩
end My

set_option linter.all false
namespace My
open PySem PySem.Spec PyProof.Rows L2
/-! ### a way with a part otherwise -/
abbrev sBent : Stmt := topS 43
theorem ItmG.flag {hd hl : Bool} {d : PyData} (h : ItmG false false d) : ItmG hd hl d :=
  ⟨⟨h.1.sh, h.1.ln, h.1.dp, fun z => (Bool.noConfusion (h.1.fd z)), fun z => (Bool.noConfusion (h.1.fl z))⟩, h.2⟩
theorem Part.flag {hd hl : Bool} {d : PyData} (h : Part false false d) : Part hd hl d :=
  ⟨⟨h.1.sh, h.1.ln, h.1.dp, fun z => (Bool.noConfusion (h.1.fd z)), fun z => (Bool.noConfusion (h.1.fl z))⟩, h.2⟩
/-- a tuple of such things -/
def TP (K : PySem.W.Frag) (p : Addr) (hd hl : Bool) (n : Nat) (H : Hp) (v : V) : Prop := ∃ a xs ds, v = .ref a ∧ del H p a = some (.tup xs) ∧ DqAll K (del H p) xs ds ∧ (∀ d ∈ ds, ItmG hd hl d) ∧ ds.length ≤ n
theorem TP.but {K : PySem.W.Frag} {p : Addr} {hd hl : Bool} {n : Nat} {H H' : Hp} {v : V} (h : TP K p hd hl n H v) (b : But p H H') : TP K p hd hl n H' v := by
  obtain ⟨a, xs, ds, e, g, q, i, l⟩ := h
  exact ⟨a, xs, ds, e, del_but b _ _ g, q.mono (del_but b), i, l⟩
theorem TP.flag {K : PySem.W.Frag} {p : Addr} {hd hl : Bool} {n : Nat} {H : Hp} {v : V} (h : TP K p false false n H v) : TP K p hd hl n H v := by
  obtain ⟨a, xs, ds, e, g, q, i, l⟩ := h
  exact ⟨a, xs, ds, e, g, q, fun d hd => (i d hd).flag, l⟩
theorem TP.part {K : PySem.W.Frag} {p : Addr} {hd hl : Bool} {n : Nat} {H : Hp} {v : V} (h : TP K p hd hl n H v) (n90 : n ≤ 90) : ∃ D, Dq K (del H p) v D ∧ Part hd hl D := by
  obtain ⟨a, xs, ds, rfl, g, q, i, l⟩ := h
  exact ⟨_, .tup g q, part_tup i (by omega)⟩
/-- something that may stand for stem or ring -/
def PP (K : PySem.W.Frag) (p : Addr) (hd hl : Bool) (H : Hp) (v : V) : Prop := ∃ D, Dq K (del H p) v D ∧ Part hd hl D
theorem PP.but {K : PySem.W.Frag} {p : Addr} {hd hl : Bool} {H H' : Hp} {v : V} (h : PP K p hd hl H v) (b : But p H H') : PP K p hd hl H' v := let ⟨D, a, c⟩ := h; ⟨D, a.mono (del_but b), c⟩
def GP (K : PySem.W.Frag) (p : Addr) (H : Hp) (v : V) : Prop := ∃ c w1 w2 D1 D2, v = .ref c ∧ del H p c = some (.tup [w1, w2]) ∧ Dq K (del H p) w1 D1 ∧ Dq K (del H p) w2 D2 ∧ Fit D1 D2
theorem GP.but {K : PySem.W.Frag} {p : Addr} {H H' : Hp} {v : V} (h : GP K p H v) (b : But p H H') : GP K p H' v := by
  obtain ⟨c, w1, w2, D1, D2, e, g, q1, q2, f⟩ := h
  exact ⟨c, w1, w2, D1, D2, e, del_but b _ _ g, q1.mono (del_but b), q2.mono (del_but b), f⟩
theorem tup_del {p pc t : Addr} {n : Nat} {H : Hp} {xs : List V} (P : PenC H p pc n) (h : H t = some (.tup xs)) : del H p t = some (.tup xs) := by
  by_cases z : t = p
  · subst z
    obtain ⟨cells, x, y, g1, _⟩ := P.ex
    rw [g1] at h; cases h
  · rw [del_ne z]; exact h
theorem gp_mk {K : PySem.W.Frag} {p pc c : Addr} {hd hl : Bool} {n : Nat} {H : Hp} {w1 w2 : V} (P : PenC H p pc n) (h : H c = some (.tup [w1, w2])) (h1 : PP K p hd hl H w1) (h2 : PP K p hd hl H w2) (f : (hd && hl) = false) : GP K p H (.ref c) := by
  obtain ⟨D1, q1, p1⟩ := h1
  obtain ⟨D2, q2, p2⟩ := h2
  exact ⟨c, w1, w2, D1, D2, rfl, tup_del P h, q1, q2, fit_of p1 p2 f⟩
theorem nwd {p c : Addr} {G' H H' : Hp} {o : HO} (m : Nw (del H p) H G' H') (hp : H p ≠ none) (h : G' c = some o) : del H' p c = some o := by
  have gp : G' p = none := (m.old p hp).trans del_at
  have cp : c ≠ p := fun e => by rw [e, gp] at h; cases h
  rw [del_ne cp]; exact m.gh _ _ h
section
variable {X : Cx}
def rSlP (K : PySem.W.Frag) (p pc : Addr) : V → Option Int → Option Int → Hp → VK → Prop := fun x lo hi H Q => ∃ (hd hl : Bool) (n t : Nat), PenC H p pc t ∧ TP K p hd hl n H x ∧ ∀ v H', Same H H' → TP K p hd hl n H' v → Q v H'
theorem sl_tupP (p pc : Addr) : SlR X (rSlP X.K p pc) := SlR.imp sl_tupG fun x lo hi H Q ⟨hd, hl, n, t, PC, ⟨a, xs, ds, e, g, q, it, ln⟩, k⟩ =>
  ⟨del H p, a, xs, e, del_same, g, fun c G' H' m hc => by
    have s := m.hh
    refine k _ _ s ⟨c, _, (ds.drop (HT.sIx xs.length 0 lo)).take (HT.sIx xs.length xs.length hi - HT.sIx xs.length 0 lo), rfl, nwd m PC.any.some hc, ?_, fun d hd => it d (List.mem_of_mem_drop (List.mem_of_mem_take hd)), ?_⟩
    · exact ((q.mono (del_but (But.of s))).drop _).take _
    · rw [List.length_take, List.length_drop]; omega⟩
def rCatP (K : PySem.W.Frag) (p pc : Addr) : R2 := fun x y H Q => ∃ (hd hl : Bool) (n m t : Nat), PenC H p pc t ∧ TP K p hd hl n H x ∧ TP K p hd hl m H y ∧ n + m ≤ 90 ∧ ∀ v H', Same H H' → TP K p hd hl (n + m) H' v → Q v H'
theorem op_catP (p pc : Addr) : OpR X (binaryOp .Add) (rCatP X.K p pc) := OpR.imp op_catG fun x y H Q ⟨hd, hl, n, m, t, PC, ⟨a, xs, ds, e, g, q, it, ln⟩, ⟨a2, xs2, ds2, e2, g2, q2, it2, ln2⟩, b90, k⟩ =>
  ⟨del H p, a, a2, xs, xs2, e, e2, del_same, g, g2, (by rw [q.len, q2.len, sizeLine_eq]; omega), fun c G' H' mm hc => by
    have s := mm.hh
    refine k _ _ s ⟨c, _, ds ++ ds2, rfl, nwd mm PC.any.some hc, (q.append q2).mono (del_but (But.of s)), fun d hd => ?_, by rw [List.length_append]; omega⟩
    rcases List.mem_append.mp hd with h | h
    · exact it d h
    · exact it2 d h⟩
end
def OI (K : PySem.W.Frag) (p : Addr) (H : Hp) (v : V) : Prop := ∃ d, Dq K (del H p) v d ∧ (ItmG true false d ∨ ItmG false true d)
theorem OI.but {K : PySem.W.Frag} {p : Addr} {H H' : Hp} {v : V} (h : OI K p H v) (b : But p H H') : OI K p H' v := let ⟨D, a, c⟩ := h; ⟨D, a.mono (del_but b), c⟩
/-- what stands while a way is bent -/
structure Bs (K : PySem.W.Frag) (G : Hp) (p bk rr : Addr) (b : Int) (ns : List Str) (rws : List (List (Int × Str))) (kvs : List (Key × V)) (sv : V) (ra c0 : Addr) (rs : List V) (q0 : Int × Str) (H : Hp) : Prop where
  R : Rw K G H p bk rr b ns rws kvs
  st : TP K p false false 20 H sv
  rg : TP K p false false 20 H (.ref ra)
  gr : del H p ra = some (.tup (.ref c0 :: rs))
  gc : del H p c0 = some (.tup (pv2 q0))
  q0 : InB b ns q0
theorem Bs.but {K : PySem.W.Frag} {G : Hp} {p bk rr : Addr} {b : Int} {ns : List Str} {rws : List (List (Int × Str))} {kvs : List (Key × V)} {sv : V} {ra c0 : Addr} {rs : List V} {q0 : Int × Str} {H H' : Hp} (h : Bs K G p bk rr b ns rws kvs sv ra c0 rs q0 H) (e : But p H H') : Bs K G p bk rr b ns rws kvs sv ra c0 rs q0 H' :=
  ⟨h.R.but e, h.st.but e, h.rg.but e, del_but e _ _ h.gr, del_but e _ _ h.gc, h.q0⟩
def spBent (K : PySem.W.Frag) : Sp := fun vs H Q _ => ∃ (G : Hp) (p pc bk rr : Addr) (b : Int) (ns : List Str) (rws : List (List (Int × Str))) (kvs : List (Key × V)) (sv : V) (ra c0 : Addr) (rs : List V) (q0 : Int × Str) (t : Nat), vs = [.ref p, .ref bk, sv, .ref ra] ∧ PenC H p pc t ∧ t + 100 < 2 ^ 29 ∧ Bs K G p bk rr b ns rws kvs sv ra c0 rs q0 H ∧
  ∀ v H', But p H H' → PenC H' p pc (t + 20) → GP K p H' v → Q v H'
section
variable {P : Program} {w : World} {K : PySem.W.Frag} {mg : Str → Option Value} {base : Heap}
theorem scBent : FnScope ["pen", "book", "stem", "ring", "whole", "names", "odd", "at", "bent", "cut", "some", "kind"] ["pen", "book", "stem", "ring"] (defScope sBent) := ⟨rfl, rfl, rfl, by decide +kernel, rfl, by decide +kernel, by decide +kernel⟩
theorem ok_bent {f fT : Addr} {fd fdT : FuncData} (F : Fun K "_law_bent" "_law_bent" sBent f fd) (ml : mg "len" = none) (mli : mg "list" = none)
    (FT : Fun K "_law_take" "_law_take" sTake fT fdT) (GT : FnOk P w K mg base CX0 2 fT fdT ["pen", "many"] spTakeC) (bT : Binds K fdT ["pen", "many"] []) (gT : mg "_law_take" = some (.ref fT)) :
    FnOk P w K mg base CX0 3 f fd ["pen", "book", "stem", "ring"] (spBent K) := by
  refine F.ok scBent (fun vs H Q E h => ?_) (fun cdv A outer s H vs Q E hr h => ?_)
  · obtain ⟨G, p, pc, bk, rr, b, ns, rws, kvs, sv, ra, c0, rs, q0, t, rfl, _⟩ := h
    rfl
  · obtain ⟨G, p, pc, bk, rr, b, ns, rws, kvs, sv, ra, c0, rs, q0, t, rfl, C, tt, S, k⟩ := h
    have hr2 := hr
    refine ⟨_, (pss_cons (ps_set (i := 4) scBent.nd rfl (Or.inl rfl) (pe_op op_catG (pv 2) (pv 3)))
      (pss_cons (ps_set (i := 5) scBent.nd rfl (Or.inl rfl) (pe_callTy (call_listD rfl) (by rfl) mli boot_list (pa_cons (pe_ix ix_tup (pv 1) pe_int (fun _ _ => rfl)) pa_nil)))
      (C8.pss_cut (ps_set (i := 6) scBent.nd rfl (Or.inl rfl) (pe_lstS (pa_cons (pe_tupS (pa_cons (pe_call GT hr2 (by rfl) gT FT.kp bT .nil pass0 (pa_cons (pv 0) (pa_cons (pe_ix ix_tup (pv 1) pe_int (fun _ _ => rfl)) pa_nil))) (pa_cons (pe_ix ix_list (pv 5) (pe_call GT hr2 (by rfl) gT FT.kp bT .nil pass0 (pa_cons (pv 0) (pa_cons (pe_callB call_len_seq (by rfl) ml PySem.boot_len (pa_cons (pv 5) pa_nil)) pa_nil))) (fun _ _ => rfl)) pa_nil))) (pa_cons (pe_tupS (pa_cons pe_bl (pa_cons (pe_ix ix_list (pv 5) pe_int (fun _ _ => rfl)) pa_nil))) (pa_cons (pe_tupS (pa_cons pe_bl (pa_cons (pe_ix ix_list (pv 5) pe_int (fun _ _ => rfl)) pa_nil))) (pa_cons pe_non pa_nil))))))
      (C8.pss_cut (ps_set (i := 6) scBent.nd rfl (Or.inl rfl) (pe_op op_cat (pv 6) (pe_lstS (pa_cons (pe_callTy call_list_of (by rfl) mli boot_list (pa_cons (pe_ix ix_tup (pv 3) pe_int (fun _ _ => rfl)) pa_nil)) (pa_cons (pe_slice sl_tupG (pe_ix ix_tup (pv 3) pe_int (fun _ _ => rfl)) po_none (po_some pe_int)) (pa_cons (pe_op op_catG (pe_ix ix_tup (pv 3) pe_int (fun _ _ => rfl)) (pe_tupS (pa_cons pe_int pa_nil))) (pa_cons (pe_tupS (pa_cons (pe_ix ix_tup (pe_ix ix_tup (pv 3) pe_int (fun _ _ => rfl)) pe_int (fun _ _ => rfl)) (pa_cons (pe_ix ix_tup (pe_ix ix_tup (pv 3) pe_int (fun _ _ => rfl)) pe_int (fun _ _ => rfl)) pa_nil))) (pa_cons (pe_ix ix_tup (pv 3) pe_int (fun _ _ => rfl)) (pa_cons pe_int (pa_cons pe_str (pa_cons pe_dnewK pa_nil)))))))))))
      (pss_cons (ps_set (i := 7) scBent.nd rfl (Or.inl rfl) (pe_call GT hr2 (by rfl) gT FT.kp bT .nil pass0 (pa_cons (pv 0) (pa_cons (pe_callB call_len_seq (by rfl) ml PySem.boot_len (pa_cons (pv 4) pa_nil)) pa_nil))))
      (C8.pss_cut (ps_set (i := 8) scBent.nd rfl (Or.inl rfl) (pe_op (op_catP p pc) (pe_op (op_catP p pc) (pe_slice (sl_tupP p pc) (pv 4) po_none (po_some (pv 7))) (pe_tupS (pa_cons (pe_ix ix_list (pv 6) (pe_call GT hr2 (by rfl) gT FT.kp bT .nil pass0 (pa_cons (pv 0) (pa_cons pe_int pa_nil))) (fun _ _ => rfl)) pa_nil))) (pe_slice (sl_tupP p pc) (pv 4) (po_some (pe_op op_add (pv 7) (pe_call GT hr2 (by rfl) gT FT.kp bT .nil pass0 (pa_cons (pv 0) (pa_cons pe_int pa_nil))))) po_none)))
      (pss_cons (ps_set (i := 9) scBent.nd rfl (Or.inl rfl) (pe_call GT hr2 (by rfl) gT FT.kp bT .nil pass0 (pa_cons (pv 0) (pa_cons (pe_op op_add (pe_callB call_len_seq (by rfl) ml PySem.boot_len (pa_cons (pv 4) pa_nil)) pe_int) pa_nil))))
      (C8.pss_cut (ps_set (i := 10) scBent.nd rfl (Or.inl rfl) (pe_lstS (pa_cons (pe_tupS (pa_cons (pe_slice (sl_tupP p pc) (pv 8) po_none (po_some (pe_callB call_len_seq (by rfl) ml PySem.boot_len (pa_cons (pv 2) pa_nil)))) (pa_cons (pe_slice (sl_tupP p pc) (pv 8) (po_some (pe_callB call_len_seq (by rfl) ml PySem.boot_len (pa_cons (pv 2) pa_nil))) po_none) pa_nil))) (pa_cons (pe_tupS (pa_cons (pe_slice (sl_tupP p pc) (pv 4) po_none (po_some (pv 9))) (pa_cons (pe_slice (sl_tupP p pc) (pv 4) (po_some (pv 9)) po_none) pa_nil))) (pa_cons (pe_tupS (pa_cons (pv 3) (pa_cons (pv 2) pa_nil))) (pa_cons (pe_tupS (pa_cons (pv 2) (pa_cons (pe_tupS pa_nil) pa_nil))) (pa_cons (pe_tupS (pa_cons (pv 4) (pa_cons (pe_tupS pa_nil) pa_nil))) pa_nil)))))))
      (C8.pss_cut (ps_set (i := 10) scBent.nd rfl (Or.inl rfl) (pe_op op_cat (pv 10) (pe_lstS (pa_cons (pe_tupS (pa_cons (pe_callTy call_list_of (by rfl) mli boot_list (pa_cons (pv 2) pa_nil)) (pa_cons (pv 3) pa_nil))) (pa_cons (pe_tupS (pa_cons (pv 2) (pa_cons (pe_callTy call_list_of (by rfl) mli boot_list (pa_cons (pv 3) pa_nil)) pa_nil))) (pa_cons (pe_tupS (pa_cons pe_non (pa_cons (pv 3) pa_nil))) (pa_cons (pe_tupS (pa_cons (pv 2) (pa_cons pe_non pa_nil))) (pa_cons (pe_tupS (pa_cons (pv 2) (pa_cons (pe_slice (sl_tupP p pc) (pv 3) po_none (po_some (pe_un un_neg pe_int))) pa_nil))) pa_nil))))))))
      (pss_cons (ps_set (i := 11) scBent.nd rfl (Or.inl rfl) (pe_ix ix_list (pe_lstS (pa_cons pe_int (pa_cons pe_bl (pa_cons pe_str (pa_cons pe_str (pa_cons pe_dnewK (pa_cons pe_non (pa_cons (pe_lstS pa_nil) pa_nil)))))))) (pe_call GT hr2 (by rfl) gT FT.kp bT .nil pass0 (pa_cons (pv 0) (pa_cons pe_int pa_nil))) (fun _ _ => rfl)))
      (C8.pss_cut (ps_set (i := 10) scBent.nd rfl (Or.inl rfl) (pe_op op_cat (pv 10) (pe_lstS (pa_cons (pe_tupS (pa_cons (pe_slice (sl_tupP p pc) (pv 2) (po_some pe_int) po_none) (pa_cons (pv 3) pa_nil))) (pa_cons (pe_tupS (pa_cons (pv 11) (pa_cons (pv 3) pa_nil))) (pa_cons (pe_tupS (pa_cons (pv 2) (pa_cons (pv 11) pa_nil))) pa_nil))))))
      (pss_one (ps_ret (pe_ix ix_list (pv 10) (pe_call GT hr2 (by rfl) gT FT.kp bT .nil pass0 (pa_cons (pv 0) (pa_cons pe_int pa_nil))) (fun _ _ => rfl))))))))))))))), ?_⟩
    have B := S.R.ok
    have okq : NameOk q0.2 := B.ok _ S.q0.2.2
    have q00 := S.q0.1
    have q01 : q0.1 ≤ 10 := by have := S.q0.2.1; have := B.b1; omega
    obtain ⟨nm, hnm⟩ : ∃ nm, ns[0]? = some nm := by
      cases hh : ns with
      | nil => exact absurd hh B.n0
      | cons nm rest => exact ⟨nm, rfl⟩
    have okn : NameOk nm := B.ok _ (List.mem_of_getElem? hnm)
    -- whole
    obtain ⟨a1, as1, ds1, esv, g1, q1, i1, l1⟩ := S.st
    subst esv
    obtain ⟨a2, as2, ds2, e2, g2, q2, i2, l2⟩ := S.rg
    obtain rfl : ra = a2 := by injection e2
    have ln1 := q1.len
    have ln2 := q2.len
    refine ⟨_, rfl, _, rfl, del H p, a1, ra, as1, as2, rfl, rfl, del_same, g1, g2, by rw [sizeLine_eq]; omega, fun wa G1 H1 m1 hwa => ?_⟩
    have gw := nwd m1 C.any.some hwa
    have s1 := m1.hh
    have tw : TP K p false false 40 H1 (.ref wa) := ⟨wa, _, ds1 ++ ds2, rfl, gw, (q1.append q2).mono (del_but (But.of s1)), fun d hd => by
      rcases List.mem_append.mp hd with h | h
      · exact i1 d h
      · exact i2 d h, by rw [List.length_append]; omega⟩
    have w1 : 1 ≤ (as1 ++ as2).length := by
      have : as2 = .ref c0 :: rs := by
        have := S.gr
        rw [g2] at this
        injection this with this
        injection this
      rw [this, List.length_append, List.length_cons]; omega
    have w40 : (as1 ++ as2).length ≤ 40 := by rw [List.length_append]; omega
    generalize as1 ++ as2 = ws at gw w1 w40
    have S1 := S.but (But.of s1)
    clear g1 q1 i1 l1 g2 q2 i2 l2 ln1 ln2 e2 hwa m1
    have C1 := C.same s1 (Nat.le_refl _)
    -- names
    refine ⟨_, rfl, bk, _, 1, .ref rr, rfl, rfl, SqT.of (S1.R.rows.same _ _ S1.R.gb), atI_nat (j := 1) rfl, rr, kvs, rfl, S1.R.rows.rd, fun na nna => ?_⟩
    rw [S1.R.rows.list]
    have s2 : Same H1 (upd H1 na (.lst (ns.map V.str))) := Same.upd nna
    have nap : na ≠ p := pen_not C1.any nna
    have hna : (upd H1 na (.lst (ns.map V.str))) na = some (.lst (ns.map V.str)) := upd_same
    have S2 := S1.but (But.of s2)
    have tw2 := tw.but (But.of s2)
    have gw2 := del_but (But.of (p := p) s2) _ _ gw
    have C2 := C1.same s2 (Nat.le_refl _)
    have bt2 : But p H (upd H1 na (.lst (ns.map V.str))) := But.of (s1.trans s2)
    generalize upd H1 na (.lst (ns.map V.str)) = H2 at hna S2 tw2 C2 bt2 gw2
    clear S1 C1 s2 tw S s1 nna gw
    -- odd
    refine ⟨(fun σ Ho => ∃ (od : Addr) (os : List V), σ = [some (.ref p), some (.ref bk), some (.ref a1), some (.ref ra), some (.ref wa), some (.ref na), some (.ref od), none, none, none, none, none] ∧ Ho od = some (.lst os) ∧ od ≠ p ∧ os.length = 4 ∧ (∀ v ∈ os, OI K p Ho v) ∧ But p H2 Ho ∧ PenC Ho p pc (t + 4)), ?_, ?_⟩
    · refine ⟨_, rfl, _, rfl, bk, _, 0, .int b, rfl, rfl, SqT.of (S2.R.rows.same _ _ S2.R.gb), atI_nat (j := 0) rfl, p, pc, b, t, rfl, by have := B.b0; omega, Nat.lt_of_le_of_lt (show b.natAbs ≤ 1001 by have := B.b0; have := B.b1; omega) (by decide), C2, by omega, fun dg H3 dg0 dg1 b3 C3 => ?_⟩
      have S3 := S2.but b3
      have hna3 := b3 _ _ nap hna
      have nl1 : 0 < ns.length := List.length_pos_iff.mpr B.n0
      have n8 := B.n8
      refine ⟨_, rfl, _, rfl, _, rfl, na, _, rfl, .inl (SqL.of hna3), p, pc, _, _, rfl, by rw [List.length_map]; omega, Nat.lt_of_le_of_lt (show (((ns.map V.str).length : Int)).natAbs ≤ 8 by rw [List.length_map]; omega) (by decide), C3, by omega, fun u H4 u0 u1 b4 C4 => ?_⟩
      rw [List.length_map] at u1
      obtain ⟨un, rfl⟩ : ∃ n : Nat, u = (n : Int) := ⟨u.toNat, by omega⟩
      obtain ⟨x1, hx1⟩ : ∃ x, ns[un]? = some x := ⟨_, List.getElem?_eq_getElem (by omega)⟩
      have okx : NameOk x1 := B.ok _ (List.mem_of_getElem? hx1)
      have hna4 := b4 _ _ nap hna3
      have b24 : But p H2 H4 := b3.trans b4
      refine ⟨na, _, (un : Int), .str x1, rfl, rfl, SqL.of hna4, atI_nat (j := un) (by rw [List.getElem?_map, hx1]; rfl), ?_⟩
      refine ⟨by show 2 ≤ sizeLine; decide, fun t1 H5 s5 h5 => ?_⟩
      have C5 := C4.same s5 (Nat.le_refl _)
      have at0 : ∀ {Hx : Hp}, atI (ns.map V.str) 0 = some (.str nm) := atI_nat (j := 0) (by rw [List.getElem?_map, hnm]; rfl)
      refine ⟨_, rfl, na, _, 0, .str nm, rfl, rfl, SqL.of (s5 _ _ hna4), atI_nat (j := 0) (by rw [List.getElem?_map, hnm]; rfl), by show 2 ≤ sizeLine; decide, fun t2 H6 s6 h6 => ?_⟩
      have s46 := s5.trans s6
      refine ⟨_, rfl, na, _, 0, .str nm, rfl, rfl, SqL.of (s46 _ _ hna4), atI_nat (j := 0) (by rw [List.getElem?_map, hnm]; rfl), by show 2 ≤ sizeLine; decide, fun t3 H7 s7 h7 => ?_⟩
      refine ⟨by show 4 ≤ sizeLine; decide, fun od H8 s8 n8 h8 => ?_⟩
      have s47 := s46.trans s7
      have C7 := C4.same s47 (Nat.le_refl _)
      have C8' := C7.same s8 (Nat.le_refl _)
      have s78 := s7.trans s8
      have s68 := s6.trans s78
      refine ⟨od, _, rfl, h8, pen_not C7.any n8, rfl, ?_, b24.trans (But.of (s47.trans s8)), C8'.same (Same.refl _) (by omega)⟩
      intro v hv
      simp only [List.mem_cons, List.not_mem_nil, or_false] at hv
      have bn := B.b1
      rcases hv with rfl | rfl | rfl | rfl
      · exact ⟨_, .tup (tup_del C8' (s68 _ _ h5)) (.cons (.int _) (.cons (.str _) .nil)), .inl (itm_pair (q := (dg, x1)) dg0 (show dg ≤ 10 by omega) okx)⟩
      · exact ⟨_, .tup (tup_del C8' (s78 _ _ h6)) (.cons (.bl _) (.cons (.str _) .nil)), .inl (itm_bool okn)⟩
      · exact ⟨_, .tup (tup_del C8' (s8 _ _ h7)) (.cons (.bl _) (.cons (.str _) .nil)), .inl (itm_bool okn)⟩
      · exact ⟨_, .non, .inl itm_none⟩
    rintro σ H3 ⟨od, os, rfl, hod, odp, los, oos, b23, C3⟩
    have S3 := S2.but b23
    have hna3 := b23 _ _ nap hna
    have tw3 := tw2.but b23
    have gw3 := del_but b23 _ _ gw2
    have bt3 := bt2.trans b23
    clear S2 tw2 bt2 b23 C2 hna
    -- the other things
    refine ⟨(fun σ Ho => ∃ (od : Addr) (os : List V), σ = [some (.ref p), some (.ref bk), some (.ref a1), some (.ref ra), some (.ref wa), some (.ref na), some (.ref od), none, none, none, none, none] ∧ Ho od = some (.lst os) ∧ od ≠ p ∧ os.length = 12 ∧ (∀ v ∈ os, OI K p Ho v) ∧ But p H3 Ho ∧ PenC Ho p pc (t + 4)), ?_, ?_⟩
    · have r0 : ∀ {Hx : Hp}, But p H3 Hx → SqT K Hx ra (.ref c0 :: rs) := fun b => SqT.of (del_same _ _ (del_but b _ _ S3.gr))
      have r1 : ∀ {Hx : Hp}, But p H3 Hx → SqT K Hx c0 (pv2 q0) := fun b => SqT.of (del_same _ _ (del_but b _ _ S3.gc))
      refine ⟨_, rfl, _, rfl, ra, _, 0, .ref c0, rfl, rfl, r0 (fun _ _ _ h => h), atI_nat (j := 0) rfl, c0, _, rfl, .inr (r1 (fun _ _ _ h => h)), fun l1 nl1 => ?_⟩
      have sa : Same H3 (upd H3 l1 (.lst (pv2 q0))) := Same.upd nl1
      have h1 : (upd H3 l1 (.lst (pv2 q0))) l1 = some (.lst (pv2 q0)) := upd_same
      have l1p : l1 ≠ p := pen_not C3.any nl1
      generalize upd H3 l1 (.lst (pv2 q0)) = Ha at sa h1
      have Ca := C3.same sa (Nat.le_refl _)
      refine ⟨_, rfl, ra, _, 0, .ref c0, rfl, rfl, r0 (But.of sa), atI_nat (j := 0) rfl, 1, rfl, del Ha p, c0, _, rfl, del_same, del_but (But.of sa) _ _ S3.gc, fun c1 G1 Hb m1 hc1 => ?_⟩
      have d1 := nwd m1 Ca.any.some hc1
      have sb := sa.trans m1.hh
      have Cb := Ca.same m1.hh (Nat.le_refl _)
      clear hc1
      have ct : cutV (pv2 q0) none (some 1) = [.int q0.1] := by
        have := cut_takeV (pv2 q0) 1
        rw [show ((1 : Nat) : Int) = 1 from rfl] at this
        rw [this]; rfl
      rw [ct] at d1
      refine ⟨_, rfl, ra, _, 0, .ref c0, rfl, rfl, r0 (But.of sb), atI_nat (j := 0) rfl, by show 1 ≤ sizeLine; decide, fun t4 Hc sc4 h4 => ?_⟩
      have sc := sb.trans sc4
      have Cc := Cb.same sc4 (Nat.le_refl _)
      refine ⟨del Hc p, c0, t4, _, _, rfl, rfl, del_same, del_but (But.of sc) _ _ S3.gc, tup_del Cc h4, by show 3 ≤ sizeLine; decide, fun c2 G2 Hd m2 hc2 => ?_⟩
      have d2 := nwd m2 Cc.any.some hc2
      have sd := sc.trans m2.hh
      have Cd := Cc.same m2.hh (Nat.le_refl _)
      clear hc2
      refine ⟨_, rfl, ra, _, 0, .ref c0, rfl, rfl, r0 (But.of sd), atI_nat (j := 0) rfl, c0, _, 1, .str q0.2, rfl, rfl, r1 (But.of sd), atI_nat (j := 1) rfl, _, rfl, ra, _, 0, .ref c0, rfl, rfl, r0 (But.of sd), atI_nat (j := 0) rfl, c0, _, 0, .int q0.1, rfl, rfl, r1 (But.of sd), atI_nat (j := 0) rfl, by show 2 ≤ sizeLine; decide, fun t5 He se5 h5 => ?_⟩
      have se := sd.trans se5
      have Ce := Cd.same se5 (Nat.le_refl _)
      refine ⟨_, rfl, ra, _, 0, .ref c0, rfl, rfl, r0 (But.of se), atI_nat (j := 0) rfl, fun dd ndd => ?_⟩
      have sf5 : Same He (upd He dd (.dK [])) := Same.upd ndd
      have h6 : (upd He dd (.dK [])) dd = some (.dK []) := upd_same
      have ddp : dd ≠ p := pen_not Ce.any ndd
      generalize upd He dd (.dK []) = Hf at sf5 h6
      have sf := se.trans sf5
      have Cf := Ce.same sf5 (Nat.le_refl _)
      refine ⟨by show 8 ≤ sizeLine; decide, fun l2 Hg sg5 n2 h7 => ?_⟩
      have sg := sf.trans sg5
      have Cg := Cf.same sg5 (Nat.le_refl _)
      refine ⟨od, l2, os, _, rfl, rfl, sg _ _ hod, h7, by rw [los]; show 12 ≤ sizeLine; decide, fun l3 nl3 => ?_⟩
      have sh5 := Same.upd (o := .lst (os ++ [.ref l1, .ref c1, .ref c2, .ref t5, .ref c0, .int 0, .str "", .ref dd])) nl3
      have sh := sg.trans sh5
      refine ⟨l3, _, rfl, upd_same, pen_not Cg.any nl3, by rw [List.length_append, los]; rfl, ?_, But.of sh, (Cg.same sh5 (Nat.le_refl _))⟩
      intro v hv
      have sgh := sg5.trans sh5
      have sfh := sf5.trans sgh
      have seh := se5.trans sfh
      have sdh := m2.hh.trans seh
      have sch := sc4.trans sdh
      have sbh := m1.hh.trans sch
      rcases List.mem_append.mp hv with hv | hv
      · exact (oos v hv).but (But.of sh)
      · simp only [List.mem_cons, List.not_mem_nil, or_false] at hv
        rcases hv with rfl | rfl | rfl | rfl | rfl | rfl | rfl | rfl
        · refine ⟨_, .lst (xs := pv2 q0) ?_ (.cons (.int _) (.cons (.str _) .nil)), .inr (itm_list q00 q01 okq)⟩
          rw [del_ne l1p]; exact sbh _ _ h1
        · exact ⟨_, .tup (del_but (But.of sch) _ _ d1) (.cons (.int _) .nil), .inl (itm_one q00 q01)⟩
        · exact ⟨_, .tup (del_but (But.of seh) _ _ d2) (.cons (.int _) (.cons (.str _) (.cons (.int _) .nil))), .inl (itm_three q00 q01 okq)⟩
        · exact ⟨_, .tup (del_but (But.of sfh) _ _ (tup_del Ce h5)) (.cons (.str _) (.cons (.int _) .nil)), .inl (itm_swap q00 q01 okq)⟩
        · exact ⟨_, .tup (del_but (But.of sh) _ _ S3.gc) (.cons (.int _) (.cons (.str _) .nil)), .inl (itm_pair q00 q01 okq)⟩
        · exact ⟨_, .int _, .inl itm_int0⟩
        · exact ⟨_, .str _, .inl itm_str0⟩
        · refine ⟨.dict [], .dct (kvs := []) ?_ .nil .nil, .inl itm_dict0⟩
          rw [del_ne ddp]; exact sgh _ _ h6
    rintro σ H4 ⟨od, os, rfl, hod, odp, los, oos, b34, C4⟩
    have S4 := S3.but b34
    have tw4 := tw3.but b34
    have gw4 := del_but b34 _ _ gw3
    have bt4 := bt3.trans b34
    clear S3 tw3 bt3 b34 C3 hna3
    -- at
    refine ⟨_, rfl, _, rfl, wa, _, rfl, .inr (SqT.of (del_same _ _ gw4)), p, pc, (ws.length : Int), _, rfl, by omega, Nat.lt_of_le_of_lt (show ((ws.length : Int)).natAbs ≤ 40 by omega) (by decide), C4, by omega, fun u H5 u0 u1 b5 C5 => ?_⟩
    have S5 := S4.but b5
    have tw5 := tw4.but b5
    have gw5 := del_but b5 _ _ gw4
    have bt5 := bt4.trans b5
    have hod5 := b5 _ _ odp hod
    have oos5 : ∀ v ∈ os, OI K p H5 v := fun v hv => (oos v hv).but b5
    clear S4 tw4 bt4 hod oos C4 gw4
    -- bent
    refine ⟨(fun σ Ho => ∃ (bv : V) (hd hl : Bool), σ = [some (.ref p), some (.ref bk), some (.ref a1), some (.ref ra), some (.ref wa), some (.ref na), some (.ref od), some (.int u), some bv, none, none, none] ∧ (hd && hl) = false ∧ TP K p hd hl 81 Ho bv ∧ But p H5 Ho ∧ PenC Ho p pc (t + 10)), ?_, ?_⟩
    · refine ⟨_, rfl, _, rfl, u, rfl, false, false, 40, _, C5, tw5, fun v1 H6 s6 tv1 => ?_⟩
      have C6 := C5.same s6 (Nat.le_refl _)
      have hod6 := s6 _ _ hod5
      refine ⟨_, rfl, _, rfl, p, pc, 12, _, rfl, by decide, by decide, C6, by omega, fun m H7 m0 m1 b7 C7 => ?_⟩
      obtain ⟨mn, rfl⟩ : ∃ n : Nat, m = (n : Int) := ⟨m.toNat, by omega⟩
      have hmn : mn < os.length := by omega
      obtain ⟨dO, qO, cO⟩ := (oos5 _ (List.getElem_mem hmn)).but ((But.of s6).trans b7)
      refine ⟨od, os, (mn : Int), os[mn], rfl, rfl, SqL.of (b7 _ _ odp hod6), atI_nat (j := mn) (List.getElem?_eq_getElem hmn), by show 1 ≤ sizeLine; decide, fun t1 H8 s8 h8 => ?_⟩
      have C8' := C7.same s8 (Nat.le_refl _)
      have tv8 := (tv1.but b7).but (But.of s8)
      have t1d := tup_del C8' h8
      have qO8 := qO.mono (del_but (But.of (p := p) s8))
      obtain ⟨hd, hl, hf, hi⟩ : ∃ hd hl, (hd && hl) = false ∧ ItmG hd hl dO := by
        rcases cO with h | h
        · exact ⟨true, false, rfl, h⟩
        · exact ⟨false, true, rfl, h⟩
      refine ⟨hd, hl, 40, 1, _, C8', tv8.flag, ⟨t1, _, [dO], rfl, t1d, .cons qO8 .nil, fun d hd' => by rw [List.mem_singleton.mp hd']; exact hi, Nat.le_refl _⟩, by decide, fun v2 H9 s9 tv2 => ?_⟩
      have C9 := C8'.same s9 (Nat.le_refl _)
      have b59 : But p H5 H9 := (((But.of s6).trans b7).trans (But.of s8)).trans (But.of s9)
      refine ⟨_, rfl, _, rfl, _, rfl, p, pc, 2, _, rfl, by decide, by decide, C9, by omega, fun m2 H10 m20 m21 b10 C10 => ?_⟩
      refine ⟨_, _, rfl, rfl, _, rfl, false, false, 40, _, C10, (tw5.but b59).but b10, fun v3 H11 s11 tv3 => ?_⟩
      have C11 := C10.same s11 (Nat.le_refl _)
      refine ⟨hd, hl, 41, 40, _, C11, (tv2.but b10).but (But.of s11), tv3.flag, by decide, fun v4 H12 s12 tv4 => ?_⟩
      exact ⟨v4, hd, hl, rfl, hf, tv4, ((b59.trans b10).trans (But.of s11)).trans (But.of s12), C11.same s12 (by omega)⟩
    rintro σ H6 ⟨bv, hd, hl, rfl, hf, tb6, b56, C6⟩
    have S6 := S5.but b56
    have tw6 := tw5.but b56
    have gw6 := del_but b56 _ _ gw5
    have bt6 := bt5.trans b56
    clear S5 tw5 bt5 C5 gw5 b56 oos5 hod5
    -- cut
    refine ⟨_, rfl, _, rfl, wa, _, rfl, .inr (SqT.of (del_same _ _ gw6)), _, _, rfl, rfl, p, pc, (ws.length : Int) + 1, _, rfl, by omega, Nat.lt_of_le_of_lt (show ((ws.length : Int) + 1).natAbs ≤ 41 by omega) (by decide), C6, by omega, fun cu H7 cu0 cu1 b7 C7 => ?_⟩
    have S7 := S6.but b7
    have tw7 := tw6.but b7
    have tb7 := tb6.but b7
    have bt7 := bt6.trans b7
    clear S6 tw6 bt6 C6 gw6 b7 tb6
    -- some
    refine ⟨(fun σ Ho => ∃ (so : Addr) (ps : List V), σ = [some (.ref p), some (.ref bk), some (.ref a1), some (.ref ra), some (.ref wa), some (.ref na), some (.ref od), some (.int u), some bv, some (.int cu), some (.ref so), none] ∧ Ho so = some (.lst ps) ∧ so ≠ p ∧ ps.length = 5 ∧ (∀ v ∈ ps, GP K p Ho v) ∧ But p H7 Ho ∧ PenC Ho p pc (t + 12)), ?_, ?_⟩
    · have len1 : ∀ {Hx : Hp}, TP K p false false 20 Hx (.ref a1) → ∃ xs, SqT K Hx a1 xs := fun h => by
        obtain ⟨a, xs, ds, e, g, _⟩ := h
        cases e
        exact ⟨xs, SqT.of (del_same _ _ g)⟩
      obtain ⟨xs1, sx1⟩ := len1 S7.st
      refine ⟨_, rfl, _, rfl, a1, _, rfl, .inr sx1, _, rfl, hd, hl, 81, _, C7, tb7, fun v1 H8 s8 t1 => ?_⟩
      have C8' := C7.same s8 (Nat.le_refl _)
      have S8 := S7.but (But.of s8)
      have tb8 := tb7.but (But.of s8)
      obtain ⟨xs2, sx2⟩ := len1 S8.st
      refine ⟨_, rfl, _, rfl, a1, _, rfl, .inr sx2, _, rfl, hd, hl, 81, _, C8', tb8, fun v2 H9 s9 t2 => ?_⟩
      have C9 := C8'.same s9 (Nat.le_refl _)
      refine ⟨by show 2 ≤ sizeLine; decide, fun q1 H10 s10 h10 => ?_⟩
      have C10 := C9.same s10 (Nat.le_refl _)
      have s8_10 := (s8.trans s9).trans s10
      have g1 := gp_mk C10 h10 ((t1.but (But.of (s9.trans s10))).part (by decide)) ((t2.but (But.of s10)).part (by decide)) hf
      have tw10 := tw7.but (But.of s8_10)
      refine ⟨_, rfl, _, rfl, _, rfl, false, false, 40, _, C10, tw10, fun v3 H11 s11 t3 => ?_⟩
      have C11 := C10.same s11 (Nat.le_refl _)
      refine ⟨_, rfl, _, rfl, _, rfl, false, false, 40, _, C11, tw10.but (But.of s11), fun v4 H12 s12 t4 => ?_⟩
      have C12 := C11.same s12 (Nat.le_refl _)
      refine ⟨by show 2 ≤ sizeLine; decide, fun q2 H13 s13 h13 => ?_⟩
      have C13 := C12.same s13 (Nat.le_refl _)
      have s10_13 := (s11.trans s12).trans s13
      have g2 := gp_mk C13 h13 ((t3.but (But.of (s12.trans s13))).part (by decide)) ((t4.but (But.of s13)).part (by decide)) rfl
      have s7_13 := s8_10.trans s10_13
      have S13 := S7.but (But.of s7_13)
      refine ⟨_, rfl, _, rfl, by show 2 ≤ sizeLine; decide, fun q3 H14 s14 h14 => ?_⟩
      have C14 := C13.same s14 (Nat.le_refl _)
      have S14 := S13.but (But.of s14)
      have g3 := gp_mk C14 h14 (S14.rg.part (by decide)) (S14.st.part (by decide)) rfl
      refine ⟨_, rfl, by show 0 ≤ sizeLine; decide, fun e1 H15 s15 h15 => ?_⟩
      have C15 := C14.same s15 (Nat.le_refl _)
      have emp : ∀ {Hx : Hp} {e : Addr} {n : Nat}, PenC Hx p pc n → Hx e = some (.tup []) → PP K p false false Hx (.ref e) := fun c h => ⟨.tuple [], .tup (tup_del c h) .nil, part_tup (fun _ z => nomatch z) (by decide)⟩
      refine ⟨by show 2 ≤ sizeLine; decide, fun q4 H16 s16 h16 => ?_⟩
      have C16 := C15.same s16 (Nat.le_refl _)
      have s14_16 := s15.trans s16
      have S16 := S14.but (But.of s14_16)
      have g4 := gp_mk C16 h16 (S16.st.part (by decide)) ((emp C15 h15).but (But.of s16)) rfl
      refine ⟨_, rfl, by show 0 ≤ sizeLine; decide, fun e2 H17 s17 h17 => ?_⟩
      have C17 := C16.same s17 (Nat.le_refl _)
      refine ⟨by show 2 ≤ sizeLine; decide, fun q5 H18 s18 h18 => ?_⟩
      have C18 := C17.same s18 (Nat.le_refl _)
      have s16_18 := s17.trans s18
      have s13_16 := s14.trans s14_16
      have s13_18 := s13_16.trans s16_18
      have tw18 := (tw10.but (But.of s10_13)).but (But.of s13_18)
      have g5 := gp_mk C18 h18 (tw18.part (by decide)) ((emp C17 h17).but (But.of s18)) rfl
      refine ⟨by show 5 ≤ sizeLine; decide, fun so H19 s19 n19 h19 => ?_⟩
      refine ⟨so, _, rfl, h19, pen_not C18.any n19, rfl, ?_, But.of ((s7_13.trans s13_18).trans s19), C18.same s19 (by omega)⟩
      intro v hv
      have s14_18 := s14_16.trans s16_18
      simp only [List.mem_cons, List.not_mem_nil, or_false] at hv
      rcases hv with rfl | rfl | rfl | rfl | rfl
      · exact g1.but (But.of ((s10_13.trans s13_18).trans s19))
      · exact g2.but (But.of (s13_18.trans s19))
      · exact g3.but (But.of (s14_18.trans s19))
      · exact g4.but (But.of (s16_18.trans s19))
      · exact g5.but (But.of s19)
    rintro σ H8 ⟨so, ps, rfl, hso, sop, lps, gps, b78, C8⟩
    have S8 := S7.but b78
    have bt8 := bt7.trans b78
    clear S7 tw7 bt7 C7 tb7 b78
    -- five more
    refine ⟨(fun σ Ho => ∃ (so : Addr) (ps : List V), σ = [some (.ref p), some (.ref bk), some (.ref a1), some (.ref ra), some (.ref wa), some (.ref na), some (.ref od), some (.int u), some bv, some (.int cu), some (.ref so), none] ∧ Ho so = some (.lst ps) ∧ so ≠ p ∧ ps.length = 10 ∧ (∀ v ∈ ps, GP K p Ho v) ∧ But p H8 Ho ∧ PenC Ho p pc (t + 12)), ?_, ?_⟩
    · obtain ⟨a1', xs1, ds1, e1, g1, q1, i1, l1⟩ := S8.st
      obtain rfl : a1 = a1' := by injection e1
      obtain ⟨a2', xs2, ds2, e2, g2, q2, i2, l2⟩ := S8.rg
      obtain rfl : ra = a2' := by injection e2
      have lsp : ∀ {Hx : Hp} {l : Addr} {xs : List V} {ds : List PyData}, PenC Hx p pc (t + 12) → Hx l = none → DqAll K (del Hx p) xs ds → (∀ d ∈ ds, ItmG false false d) → ds.length ≤ 20 → PP K p false true (upd Hx l (.lst xs)) (.ref l) := fun {Hx l xs ds} c nl q i ln => by
        have lp : l ≠ p := pen_not c.any nl
        exact ⟨.list ds, .lst (xs := xs) (by rw [del_ne lp]; exact upd_same) (q.mono (del_but (But.of (Same.upd nl)))), part_lst (fun d hd => (i d hd).flag) (by omega)⟩
      refine ⟨_, rfl, _, rfl, a1, xs1, rfl, .inr (SqT.of (del_same _ _ g1)), fun la nla => ?_⟩
      have p1 := lsp C8 nla q1 i1 l1
      have s9 : Same H8 (upd H8 la (.lst xs1)) := Same.upd nla
      generalize upd H8 la (.lst xs1) = H9 at p1 s9
      have C9 := C8.same s9 (Nat.le_refl _)
      have S9 := S8.but (But.of s9)
      refine ⟨_, rfl, by show 2 ≤ sizeLine; decide, fun t1 H10 s10 h10 => ?_⟩
      have C10 := C9.same s10 (Nat.le_refl _)
      have S10 := S9.but (But.of s10)
      have s8_10 := s9.trans s10
      have gp1 := gp_mk C10 h10 (p1.but (But.of s10)) (S10.rg.flag.part (by decide)) rfl
      refine ⟨_, rfl, _, rfl, ra, xs2, rfl, .inr (SqT.of (s8_10 _ _ (del_same _ _ g2))), fun lb nlb => ?_⟩
      have p2 := lsp C10 nlb (q2.mono (del_but (But.of s8_10))) i2 l2
      have s11 : Same H10 (upd H10 lb (.lst xs2)) := Same.upd nlb
      generalize upd H10 lb (.lst xs2) = H11 at p2 s11
      have C11 := C10.same s11 (Nat.le_refl _)
      have S11 := S10.but (But.of s11)
      refine ⟨by show 2 ≤ sizeLine; decide, fun t2 H12 s12 h12 => ?_⟩
      have C12 := C11.same s12 (Nat.le_refl _)
      have S12 := S11.but (But.of s12)
      have s10_12 := s11.trans s12
      have gp2 := gp_mk C12 h12 (S12.st.flag.part (by decide)) (p2.but (But.of s12)) rfl
      have pn : ∀ {Hx : Hp}, PP K p false false Hx .non := ⟨.none, .non, sf_none.up (by decide) (by decide), trivial, by show 0 ≤ 450; decide⟩
      refine ⟨_, rfl, by show 2 ≤ sizeLine; decide, fun t3 H13 s13 h13 => ?_⟩
      have C13 := C12.same s13 (Nat.le_refl _)
      have S13 := S12.but (But.of s13)
      have gp3 := gp_mk C13 h13 pn (S13.rg.part (by decide)) rfl
      refine ⟨_, rfl, by show 2 ≤ sizeLine; decide, fun t4 H14 s14 h14 => ?_⟩
      have C14 := C13.same s14 (Nat.le_refl _)
      have S14 := S13.but (But.of s14)
      have gp4 := gp_mk C14 h14 (S14.st.part (by decide)) pn rfl
      refine ⟨_, rfl, _, rfl, _, rfl, _, rfl, false, false, 20, _, C14, S14.rg, fun v5 H15 s15 tv5 => ?_⟩
      have C15 := C14.same s15 (Nat.le_refl _)
      have S15 := S14.but (But.of s15)
      refine ⟨by show 2 ≤ sizeLine; decide, fun t5 H16 s16 h16 => ?_⟩
      have C16 := C15.same s16 (Nat.le_refl _)
      have S16 := S15.but (But.of s16)
      have gp5 := gp_mk C16 h16 (S16.st.part (by decide)) ((tv5.but (But.of s16)).part (by decide)) rfl
      have s14_16 := s15.trans s16
      have s13_16 := s14.trans s14_16
      have s12_16 := s13.trans s13_16
      have s10_16 := s10_12.trans s12_16
      have s8_16 := s8_10.trans s10_16
      refine ⟨by show 5 ≤ sizeLine; decide, fun lc H17 s17 n17 h17 => ?_⟩
      refine ⟨so, lc, ps, _, rfl, rfl, (s8_16.trans s17) _ _ hso, h17, by rw [lps]; show 10 ≤ sizeLine; decide, fun ld nld => ?_⟩
      have C17 := C16.same s17 (Nat.le_refl _)
      have s18 : Same H17 (upd H17 ld (.lst (ps ++ [.ref t1, .ref t2, .ref t3, .ref t4, .ref t5]))) := Same.upd nld
      have s1718 := s17.trans s18
      refine ⟨ld, _, rfl, upd_same, pen_not C17.any nld, by rw [List.length_append, lps]; rfl, ?_, But.of (s8_16.trans s1718), C17.same s18 (Nat.le_refl _)⟩
      intro v hv
      rcases List.mem_append.mp hv with hv | hv
      · exact (gps v hv).but (But.of (s8_16.trans s1718))
      · simp only [List.mem_cons, List.not_mem_nil, or_false] at hv
        rcases hv with rfl | rfl | rfl | rfl | rfl
        · exact gp1.but (But.of (s10_16.trans s1718))
        · exact gp2.but (But.of (s12_16.trans s1718))
        · exact gp3.but (But.of (s13_16.trans s1718))
        · exact gp4.but (But.of (s14_16.trans s1718))
        · exact gp5.but (But.of s1718)
    rintro σ H9 ⟨so, ps, rfl, hso, sop, lps, gps, b89, C9⟩
    have S9 := S8.but b89
    have bt9 := bt8.trans b89
    clear S8 bt8 C8 b89
    -- kind
    refine fun dd ndd => ?_
    have s10 : Same H9 (upd H9 dd (.dK [])) := Same.upd ndd
    have h10 : (upd H9 dd (.dK [])) dd = some (.dK []) := upd_same
    have ddp : dd ≠ p := pen_not C9.any ndd
    generalize upd H9 dd (.dK []) = H10 at s10 h10
    have C10 := C9.same s10 (Nat.le_refl _)
    refine ⟨by show 0 ≤ sizeLine; decide, fun le H11 s11 n11 h11 => ⟨by show 7 ≤ sizeLine; decide, fun lk H12 s12 n12 h12 => ?_⟩⟩
    have lep : le ≠ p := pen_not C10.any n11
    have C11 := C10.same s11 (Nat.le_refl _)
    have lkp : lk ≠ p := pen_not C11.any n12
    have C12 := C11.same s12 (Nat.le_refl _)
    have h10' := s12 _ _ (s11 _ _ h10)
    have h11' := s12 _ _ h11
    refine ⟨_, rfl, p, pc, 7, _, rfl, by decide, by decide, C12, by omega, fun m H13 m0 m1 b13 C13 => ?_⟩
    obtain ⟨mn, rfl⟩ : ∃ n : Nat, m = (n : Int) := ⟨m.toNat, by omega⟩
    obtain ⟨kv, hk⟩ : ∃ kv, [V.int 0, .bl true, .str "", .str "ab", .ref dd, .non, .ref le][mn]? = some kv := ⟨_, List.getElem?_eq_getElem (show mn < 7 by omega)⟩
    have b913 : But p H9 H13 := (((But.of s10).trans (But.of s11)).trans (But.of s12)).trans b13
    have S13 := S9.but b913
    have hso13 := b913 _ _ sop hso
    have bt13 := bt9.trans b913
    have gps13 : ∀ v ∈ ps, GP K p H13 v := fun v hv => (gps v hv).but b913
    obtain ⟨kd, kl, kf, kp⟩ : ∃ hd hl, (hd && hl) = false ∧ PP K p hd hl H13 kv := by
      have hm := List.mem_of_getElem? hk
      simp only [List.mem_cons, List.not_mem_nil, or_false] at hm
      have z : ∀ {d : PyData}, sizeG d = 0 → sizeG d ≤ 450 := fun h => by rw [h]; decide
      rcases hm with rfl | rfl | rfl | rfl | rfl | rfl | rfl
      · exact ⟨false, false, rfl, _, .int _, (sf_int (by decide) (by decide)).up (by decide) (by decide), trivial, z rfl⟩
      · exact ⟨false, false, rfl, _, .bl _, (sf_bool true).up (by decide) (by decide), trivial, z rfl⟩
      · exact ⟨false, false, rfl, _, .str _, sf_str0.up (by decide) (by decide), trivial, z rfl⟩
      · exact ⟨false, false, rfl, _, .str _, sf_strab.up (by decide) (by decide), trivial, z rfl⟩
      · exact ⟨true, false, rfl, .dict [], .dct (kvs := []) (by rw [del_ne ddp]; exact b13 _ _ ddp h10') .nil .nil, sf_dict0.up (by decide) (by decide), trivial, z rfl⟩
      · exact ⟨false, false, rfl, _, .non, sf_none.up (by decide) (by decide), trivial, z rfl⟩
      · exact ⟨false, true, rfl, .list [], .lst (xs := []) (by rw [del_ne lep]; exact b13 _ _ lep h11') .nil, part_lst (fun _ z => nomatch z) (by decide)⟩
    refine ⟨lk, _, (mn : Int), kv, rfl, rfl, SqL.of (b13 _ _ lkp h12), atI_nat (j := mn) hk, ?_⟩
    -- three more
    refine ⟨(fun σ Ho => ∃ (so : Addr) (ps : List V), σ = [some (.ref p), some (.ref bk), some (.ref a1), some (.ref ra), some (.ref wa), some (.ref na), some (.ref od), some (.int u), some bv, some (.int cu), some (.ref so), some kv] ∧ Ho so = some (.lst ps) ∧ so ≠ p ∧ ps.length = 13 ∧ (∀ v ∈ ps, GP K p Ho v) ∧ But p H13 Ho ∧ PenC Ho p pc (t + 14)), ?_, ?_⟩
    · refine ⟨_, rfl, _, rfl, 1, rfl, false, false, 20, _, C13, S13.st, fun v1 H14 s14 tv1 => ?_⟩
      have C14 := C13.same s14 (Nat.le_refl _)
      refine ⟨_, rfl, by show 2 ≤ sizeLine; decide, fun t1 H15 s15 h15 => ?_⟩
      have C15 := C14.same s15 (Nat.le_refl _)
      have s13_15 := s14.trans s15
      have S15 := S13.but (But.of s13_15)
      have gp1 := gp_mk C15 h15 ((tv1.but (But.of s15)).part (by decide)) (S15.rg.part (by decide)) rfl
      refine ⟨_, rfl, _, rfl, by show 2 ≤ sizeLine; decide, fun t2 H16 s16 h16 => ?_⟩
      have C16 := C15.same s16 (Nat.le_refl _)
      have S16 := S15.but (But.of s16)
      have s13_16 := s13_15.trans s16
      have gp2 := gp_mk C16 h16 (kp.but (But.of s13_16)) (S16.rg.flag.part (by decide)) kf
      refine ⟨_, rfl, _, rfl, by show 2 ≤ sizeLine; decide, fun t3 H17 s17 h17 => ?_⟩
      have C17 := C16.same s17 (Nat.le_refl _)
      have S17 := S16.but (But.of s17)
      have s13_17 := s13_16.trans s17
      have gp3 := gp_mk C17 h17 (S17.st.flag.part (by decide)) (kp.but (But.of s13_17)) kf
      refine ⟨by show 3 ≤ sizeLine; decide, fun lc H18 s18 n18 h18 => ?_⟩
      have C18 := C17.same s18 (Nat.le_refl _)
      refine ⟨so, lc, ps, _, rfl, rfl, (s13_17.trans s18) _ _ hso13, h18, by rw [lps]; show 13 ≤ sizeLine; decide, fun ld nld => ?_⟩
      have s19 : Same H18 (upd H18 ld (.lst (ps ++ [.ref t1, .ref t2, .ref t3]))) := Same.upd nld
      have s1819 := s18.trans s19
      refine ⟨ld, _, rfl, upd_same, pen_not C18.any nld, by rw [List.length_append, lps]; rfl, ?_, But.of (s13_17.trans s1819), C18.same s19 (by omega)⟩
      intro v hv
      rcases List.mem_append.mp hv with hv | hv
      · exact (gps13 v hv).but (But.of (s13_17.trans s1819))
      · simp only [List.mem_cons, List.not_mem_nil, or_false] at hv
        rcases hv with rfl | rfl | rfl
        · exact gp1.but (But.of ((s16.trans s17).trans s1819))
        · exact gp2.but (But.of (s17.trans s1819))
        · exact gp3.but (But.of s1819)
    rintro σ H14 ⟨so, ps, rfl, hso, sop, lps, gps, b14, C14⟩
    refine ⟨_, rfl, _, rfl, p, pc, 13, _, rfl, by decide, by decide, C14, by omega, fun m H15 m0 m1 b15 C15 => ?_⟩
    obtain ⟨mn2, rfl⟩ : ∃ n : Nat, m = (n : Int) := ⟨m.toNat, by omega⟩
    have hmn : mn2 < ps.length := by omega
    refine ⟨so, ps, (mn2 : Int), ps[mn2], rfl, rfl, SqL.of (b15 _ _ sop hso), atI_nat (j := mn2) (List.getElem?_eq_getElem hmn), ?_⟩
    exact k _ _ ((bt13.trans b14).trans b15) (C15.same (Same.refl _) (by omega)) ((gps _ (List.getElem_mem hmn)).but b15)
end
end My

set_option linter.all false
namespace My
open PySem PySem.Spec PyProof.Rows L2
/-! ### a ring turned by one; ways as rows -/
theorem frD_turn {b : Int} (b0 : 2 ≤ b) {S T : List Int} {q : Int} (hS : Digs b S) (hR : Digs b (q :: T)) : frD b (S ++ [q]) (T ++ [q]) = frD b S (q :: T) := by
  have e1 : nb b (q :: T) = q * b ^ T.length + nb b T := by
    have := nb_app b [q] T
    rw [show nb b [q] = q by unfold nb; simp] at this
    exact this
  have et : tp b (S ++ [q]) (T ++ [q]) = b * tp b S (q :: T) := by
    unfold tp
    rw [nb_snoc, nb_snoc, e1, List.length_append, List.length_singleton, List.length_cons, Int.pow_succ]
    generalize nb b S = s
    generalize nb b T = u
    generalize b ^ T.length = v
    simp only [Int.mul_sub, Int.mul_add, Int.add_mul, Int.sub_mul, Int.mul_one, Int.one_mul]
    simp only [Int.mul_comm, Int.mul_left_comm, Int.mul_assoc]
    omega
  have eb : bt b (S ++ [q]) (T ++ [q]) = b * bt b S (q :: T) := by
    unfold bt
    rw [List.length_append, List.length_append, List.length_singleton, List.length_cons, Int.pow_succ b S.length, Int.mul_comm (b ^ S.length) b, Int.mul_assoc]
  have hT : Digs b (T ++ [q]) := fun x hx => by
    rcases List.mem_append.mp hx with h | h
    · exact hR x (List.mem_cons_of_mem _ h)
    · rw [List.mem_singleton.mp h]; exact hR q List.mem_cons_self
  have hS' : Digs b (S ++ [q]) := fun x hx => by
    rcases List.mem_append.mp hx with h | h
    · exact hS x h
    · rw [List.mem_singleton.mp h]; exact hR q List.mem_cons_self
  obtain ⟨c1, c2⟩ := red_cross (t := tp b (S ++ [q]) (T ++ [q])) (b := bt b (S ++ [q]) (T ++ [q])) (t' := tp b S (q :: T)) (b' := bt b S (q :: T)) (by rw [et, eb, Int.mul_left_comm, Int.mul_left_comm (bt b S (q :: T)), Int.mul_comm (tp b S (q :: T))]) (tp_nn b0 hS hR) (bt_pos b0 _ (by simp)) (bt_pos b0 _ (by simp))
  unfold frD
  rw [c1, c2]
theorem path_take {f : Str → List (Int × Str)} : ∀ {A : List (Int × Str)} {x : Str} (n : Nat), Path f x A → Path f x (A.take n)
  | [], _, n, _ => by rw [List.take_nil]; trivial
  | _ :: _, _, 0, _ => trivial
  | _ :: _, _, n + 1, h => ⟨h.1, path_take n h.2⟩
theorem path_wayG {f : Str → List (Int × Str)} : ∀ {A : List (Int × Str)} {x : Str}, Path f x A → wayG f x (A.map pairP) = true
  | [], _, _ => rfl
  | q :: r, x, h => by
    show (match stepG f x (pairP q) with | some y => wayG f y (r.map pairP) | none => false) = true
    rw [stepG_eq, if_pos h.1]
    exact path_wayG h.2
theorem rowD_eq (Q : List (Int × Str)) : rowD Q = .tuple (Q.map pairP) := rfl
theorem okG_of {f : Str → List (Int × Str)} {x : Str} {A Q1 Q2 : List (Int × Str)} {n : Nat} (h : Path f x A) (e : Q1 ++ Q2 ++ Q2.take 1 = A.take n) (ne : Q2 ≠ []) : okG f x (rowD Q1) (rowD Q2) = true := by
  rw [rowD_eq, rowD_eq]
  show (!(Q2.map pairP).isEmpty && wayG f x (Q1.map pairP ++ Q2.map pairP ++ (Q2.map pairP).take 1)) = true
  rw [← List.map_take, ← List.map_append, ← List.map_append, e, path_wayG (path_take n h)]
  cases Q2 with
  | nil => exact absurd rfl ne
  | cons _ _ => rfl
theorem okG_pre {f : Str → List (Int × Str)} {x : Str} {A Q1 Q2 : List (Int × Str)} (h : Path f x A) (e : ∃ rest, A = Q1 ++ Q2 ++ Q2.take 1 ++ rest) (ne : Q2 ≠ []) : okG f x (rowD Q1) (rowD Q2) = true := by
  obtain ⟨rest, e⟩ := e
  rw [e] at h
  exact okG_of (n := (Q1 ++ Q2 ++ Q2.take 1).length) (path_app.mp h).1 (by rw [List.take_length]) ne
theorem path_digs {ns : List Str} {rws : List (List (Int × Str))} {b : Int} (B : BookOk b ns rws) {x : Str} {Pq : List (Int × Str)} (h : Path (rowAt ns rws) x Pq) : Digs b (Pq.map (·.1)) := fun d hd => by
  obtain ⟨q, hq, rfl⟩ := List.mem_map.mp hd
  obtain ⟨i, hi⟩ := List.mem_iff_getElem?.mp hq
  have := B.inb (path_at h hi).1
  exact ⟨this.1, this.2.1⟩
theorem pairP_inj {a c : Int × Str} (h : pairP a = pairP c) : a = c := by
  obtain ⟨a1, a2⟩ := a
  obtain ⟨c1, c2⟩ := c
  unfold pairP at h
  injection h with h
  injection h with h1 h
  injection h with h2 _
  injection h1 with h1
  injection h2 with h2
  dsimp only at h1 h2
  rw [h1, h2]
theorem map_pairP_inj : ∀ {A C : List (Int × Str)}, A.map pairP = C.map pairP → A = C
  | [], [], _ => rfl
  | [], _ :: _, h => by cases h
  | _ :: _, [], h => by cases h
  | a :: A, c :: C, h => by
    rw [List.map_cons, List.map_cons] at h
    injection h with h1 h2
    rw [pairP_inj h1, map_pairP_inj h2]
theorem rowD_inj {A C : List (Int × Str)} (h : rowD A = rowD C) : A = C := by
  rw [rowD_eq, rowD_eq] at h
  injection h with h
  exact map_pairP_inj h
/-- a tuple of pairs -/
def RP (K : PySem.W.Frag) (p : Addr) (H : Hp) (v : V) (Q : List (Int × Str)) : Prop := ∃ a xs, v = .ref a ∧ del H p a = some (.tup xs) ∧ DqAll K (del H p) xs (Q.map pairP)
theorem RP.but {K : PySem.W.Frag} {p : Addr} {H H' : Hp} {v : V} {Q : List (Int × Str)} (h : RP K p H v Q) (b : But p H H') : RP K p H' v Q := let ⟨a, xs, e, g, q⟩ := h; ⟨a, xs, e, del_but b _ _ g, q.mono (del_but b)⟩
theorem RP.dq {K : PySem.W.Frag} {p : Addr} {H : Hp} {v : V} {Q : List (Int × Str)} (h : RP K p H v Q) : Dq K (del H p) v (rowD Q) := by
  obtain ⟨a, xs, rfl, g, q⟩ := h
  exact .tup g q
theorem RP.of {K : PySem.W.Frag} {p : Addr} {H : Hp} {v : V} {Q : List (Int × Str)} (h : Dq K (del H p) v (rowD Q)) : RP K p H v Q := by
  cases h with
  | tup g q => exact ⟨_, _, rfl, g, q⟩
theorem RP.tp {K : PySem.W.Frag} {p : Addr} {H : Hp} {v : V} {Q : List (Int × Str)} {b : Int} {ns : List Str} {rws : List (List (Int × Str))} {n : Nat} (h : RP K p H v Q) (B : BookOk b ns rws) (i : ∀ q ∈ Q, InB b ns q) (ln : Q.length ≤ n) : TP K p false false n H v := by
  obtain ⟨a, xs, e, g, q⟩ := h
  refine ⟨a, xs, _, e, g, q, fun d hd => ?_, by rw [List.length_map]; exact ln⟩
  obtain ⟨z, hz, rfl⟩ := List.mem_map.mp hd
  have := i z hz
  exact itm_pair this.1 (by have := this.2.1; have := B.b1; omega) (B.ok _ this.2.2)
section
variable {X : Cx}
def rSlR (K : PySem.W.Frag) (p pc : Addr) : V → Option Int → Option Int → Hp → VK → Prop := fun x lo hi H Q => ∃ (Pq : List (Int × Str)) (t k : Nat), PenC H p pc t ∧ RP K p H x Pq ∧
  ((lo = none ∧ hi = some (k : Int) ∧ ∀ v H', Same H H' → RP K p H' v (Pq.take k) → Q v H') ∨ (lo = some (k : Int) ∧ hi = none ∧ ∀ v H', Same H H' → RP K p H' v (Pq.drop k) → Q v H'))
theorem sl_tupR (p pc : Addr) : SlR X (rSlR X.K p pc) := SlR.imp sl_tupG fun x lo hi H Q ⟨Pq, t, k, PC, ⟨a, xs, e, g, q⟩, h⟩ =>
  ⟨del H p, a, xs, e, del_same, g, fun c G' H' m hc => by
    have s := m.hh
    have d := nwd m PC.any.some hc
    rcases h with ⟨rfl, rfl, h⟩ | ⟨rfl, rfl, h⟩
    · rw [cut_takeV] at d
      exact h _ _ s ⟨c, _, rfl, d, by rw [List.map_take]; exact (q.mono (del_but (But.of s))).take _⟩
    · rw [cut_dropV] at d
      exact h _ _ s ⟨c, _, rfl, d, by rw [List.map_drop]; exact (q.mono (del_but (But.of s))).drop _⟩⟩
def rCatR (K : PySem.W.Frag) (p pc : Addr) : R2 := fun x y H Q => ∃ (A C : List (Int × Str)) (t : Nat), PenC H p pc t ∧ RP K p H x A ∧ RP K p H y C ∧ A.length + C.length ≤ 1000 ∧ ∀ v H', Same H H' → RP K p H' v (A ++ C) → Q v H'
theorem op_catR (p pc : Addr) : OpR X (binaryOp .Add) (rCatR X.K p pc) := OpR.imp op_catG fun x y H Q ⟨A, C, t, PC, ⟨a, xs, e, g, q⟩, ⟨a2, xs2, e2, g2, q2⟩, ln, k⟩ =>
  ⟨del H p, a, a2, xs, xs2, e, e2, del_same, g, g2, (by rw [q.len, q2.len, List.length_map, List.length_map, sizeLine_eq]; omega), fun c G' H' mm hc => by
    have s := mm.hh
    exact k _ _ s ⟨c, _, rfl, nwd mm PC.any.some hc, by rw [List.map_append]; exact (q.append q2).mono (del_but (But.of s))⟩⟩
end
/-- one of the ways told otherwise -/
def SP (K : PySem.W.Frag) (p : Addr) (H : Hp) (b : Int) (f : Str → List (Int × Str)) (x : Str) (fr : PyData) (v : V) : Prop := ∃ c w1 w2 Q1 Q2, v = .ref c ∧ del H p c = some (.tup [w1, w2]) ∧ Dq K (del H p) w1 (rowD Q1) ∧ Dq K (del H p) w2 (rowD Q2) ∧ okG f x (rowD Q1) (rowD Q2) = true ∧ frD b (Q1.map (·.1)) (Q2.map (·.1)) = fr ∧ Fit (rowD Q1) (rowD Q2)
theorem SP.but {K : PySem.W.Frag} {p : Addr} {H H' : Hp} {b : Int} {f : Str → List (Int × Str)} {x : Str} {fr : PyData} {v : V} (h : SP K p H b f x fr v) (e : But p H H') : SP K p H' b f x fr v := by
  obtain ⟨c, w1, w2, Q1, Q2, r, g, q1, q2, o, ff, ft⟩ := h
  exact ⟨c, w1, w2, Q1, Q2, r, del_but e _ _ g, q1.mono (del_but e), q2.mono (del_but e), o, ff, ft⟩
theorem sp_mk {K : PySem.W.Frag} {p pc c : Addr} {n : Nat} {H : Hp} {w1 w2 : V} {Q1 Q2 : List (Int × Str)} {b : Int} {ns : List Str} {rws : List (List (Int × Str))} {f : Str → List (Int × Str)} {x : Str} {fr : PyData} (P : PenC H p pc n) (h : H c = some (.tup [w1, w2])) (B : BookOk b ns rws) (r1 : RP K p H w1 Q1) (r2 : RP K p H w2 Q2) (i1 : ∀ q ∈ Q1, InB b ns q) (i2 : ∀ q ∈ Q2, InB b ns q) (l1 : Q1.length ≤ 40) (l2 : Q2.length ≤ 40)
    (o : okG f x (rowD Q1) (rowD Q2) = true) (e : frD b (Q1.map (·.1)) (Q2.map (·.1)) = fr) : SP K p H b f x fr (.ref c) := by
  have p1 : Part false false (rowD Q1) := part_tup (fun d hd => by
    obtain ⟨z, hz, rfl⟩ := List.mem_map.mp hd
    have := i1 z hz
    exact itm_pair this.1 (by have := this.2.1; have := B.b1; omega) (B.ok _ this.2.2)) (by rw [List.length_map]; omega)
  have p2 : Part false false (rowD Q2) := part_tup (fun d hd => by
    obtain ⟨z, hz, rfl⟩ := List.mem_map.mp hd
    have := i2 z hz
    exact itm_pair this.1 (by have := this.2.1; have := B.b1; omega) (B.ok _ this.2.2)) (by rw [List.length_map]; omega)
  exact ⟨c, w1, w2, Q1, Q2, rfl, tup_del P h, r1.dq, r2.dq, o, e, fit_of p1 p2 rfl⟩
end My

set_option linter.all false
namespace My
open PySem PySem.Spec PyProof.Rows L2
/-! ### a book shown while its rows are walked -/
section
variable {X : Cx} {pins : List (Addr × Obj)} {σ : L2.St} {H : Hp} {s : Shared}
theorem reads_frz {rr : Addr} {od : Obj} {kvs : List (Key × V)} {ds : List (PyData × PyData)} (I : Inv X pins σ H s) (h : H rr = some (.frz od (.dK kvs))) (hk : DqAll X.K H (kvs.map fun kv => kV kv.1) (ds.map (·.1))) (hv : DqAll X.K H (kvs.map (·.2)) (ds.map (·.2))) :
    ∃ as, Reads s.heap (.ref rr) (.dict ds) as ∧ (hasList (.dict ds) = false → sysModules ∉ as) := by
  obtain ⟨hgd, _, hm, vs, rel, o, es, ep, ho, hx, hd, _, hp, _⟩ := I.hok _ _ h
  obtain ⟨r1, r2⟩ := kv_keys rel hp
  obtain ⟨as, q1, n1⟩ := DqAll.readsK I ds _ _ hk r1
  obtain ⟨bs, q2, n2⟩ := DqAll.readsV I ds _ _ hv r2
  refine ⟨_, Reads.dict ho hx.1 hd q1 q2, fun z => ?_⟩
  obtain ⟨z1, z2⟩ := hasListKv_split ds (by simpa only [hasList] using z)
  intro hmem
  rcases List.mem_append.mp hmem with hmem | hmem
  · rcases List.mem_cons.mp hmem with e | e
    · rw [← e] at hm; simp at hm
    · exact n1 z1 e
  · exact n2 z2 hmem
end
section
variable {X : Cx}
def rReprF (K : PySem.W.Frag) : List V → Hp → VK → Prop := fun xs H Q => ∃ (bk rr : Addr) (b : Int) (od : Obj) (kvs : List (Key × V)) (ds : List (PyData × PyData)), xs = [.ref bk] ∧ H bk = some (.tup [.int b, .ref rr]) ∧ H rr = some (.frz od (.dK kvs)) ∧ DqAll K H (kvs.map fun kv => kV kv.1) (ds.map (·.1)) ∧ DqAll K H (kvs.map (·.2)) (ds.map (·.2)) ∧
  PyData.showable (.tuple [.int b, .dict ds]) = true ∧ hasList (.tuple [.int b, .dict ds]) = false ∧ PyData.depth (.tuple [.int b, .dict ds]) ≤ 100 ∧ (PyData.shown (.tuple [.int b, .dict ds])).length ≤ sizeLine ∧ Q (.str (PyData.shown (.tuple [.int b, .dict ds]))) H
theorem cr_reprF (hg : X.A.guards = some []) (hu : X.A.units + 111 < cLine) : CallR X (.builtin "repr") (rReprF X.K) := by
  intro pins s σ H xs us Q I r h
  obtain ⟨bk, rr, b, od, kvs, ds, rfl, hb, hr, hk, hv, hs, hm, hd, hz, q⟩ := h
  cases r with
  | cons r0 rx =>
    cases rx
    cases r0
    obtain ⟨_, its, rv, o, ho, hc, n, hdt⟩ := I.hok _ _ hb
    obtain ⟨as, h1, n1⟩ := reads_frz I hr hk hv
    cases rv with
    | cons v0 rv =>
      cases rv with
      | cons v1 rv =>
        cases rv
        cases v1
        obtain ⟨t, rfl⟩ := v0
        have hl : hasList (.dict ds) = false := by
          simp only [hasList, hasListAll, Bool.or_eq_false_iff] at hm ⊢
          exact hm.2.1
        have hrd : ReadsAll s.heap [Value.int b t, Value.ref rr] [.int b, .dict ds] _ := ReadsAll.cons (Reads.int b t) (ReadsAll.cons h1 ReadsAll.nil)
        refine repr_of_reads' (Reads.tuple ho hc hdt (by simpa using hrd)) hs (fun _ hmem => ?_) hg (by omega) (fun _ _ e => e) (fun h2 u tk hk2 => ⟨.str _, H, I.kept hk2, ⟨_, rfl⟩, q⟩) hz
        exact n1 hl (by simpa using hmem)
end
end My

set_option linter.all false
namespace My
open PySem PySem.Spec PyProof.Rows L2
abbrev sLaw : Stmt := topS 45
def spLaw (K : PySem.W.Frag) : Sp := fun vs H Q _ => ∃ (a : Addr) (ns : List Int), vs = [.ref a] ∧ SqL K H a (ns.map V.int) ∧ ns.length ≤ 63 ∧ ∀ H', Q (.bl true) H'
structure TxL5 (mg : Str → Option Value) : Prop where
  range : mg "range" = none
  list : mg "list" = none
  repr : mg "repr" = none
section
variable {X : Cx}
theorem op_catE : OpR X (binaryOp .Add) (fun x y H Q => ∃ p pc, rCatR X.K p pc x y H Q) := by
  intro pins s σ H x y v u Q I rx ry h
  obtain ⟨p, pc, h⟩ := h
  exact op_catR p pc pins s σ H x y v u Q I rx ry h
theorem sl_tupE : SlR X (fun x lo hi H Q => ∃ p pc, rSlR X.K p pc x lo hi H Q) := by
  intro pins s σ H x v vl vu lo hi sl Q I rx hs pl pu h
  obtain ⟨p, pc, h⟩ := h
  exact sl_tupR p pc pins s σ H x v vl vu lo hi sl Q I rx hs pl pu h
end
section
variable {P : Program} {w : World} {K : PySem.W.Frag} {mg : Str → Option Value} {base : Heap}
theorem scLaw : FnScope ["script", "pen", "turn", "base", "book", "ends", "before", "name", "stem", "ring", "due", "some", "one", "other", "k"] ["script"] (defScope sLaw) := ⟨rfl, rfl, rfl, by decide +kernel, rfl, by decide +kernel, by decide +kernel⟩
theorem ok_law {f fO fT fNm fBk fLv fLw fDu fS fTd fBt : Addr} {fd fdO fdT fdNm fdBk fdLv fdLw fdDu fdS fdTd fdBt : FuncData} (F : Fun K "law" "law" sLaw f fd) (T : TxL5 mg)
    (FO : Fun K "_law_open" "_law_open" sOpen fO fdO) (GO : FnOk P w K mg base CX0 1 fO fdO ["script"] (spOpen K)) (bO : Binds K fdO ["script"] []) (gO : mg "_law_open" = some (.ref fO))
    (FT : Fun K "_law_take" "_law_take" sTake fT fdT) (GT : FnOk P w K mg base CX0 2 fT fdT ["pen", "many"] spTakeC) (bT : Binds K fdT ["pen", "many"] []) (gT : mg "_law_take" = some (.ref fT))
    (FNm : Fun K "_law_names" "_law_names" sNames fNm fdNm) (GNm : FnOk P w K mg base CX0 3 fNm fdNm ["pen", "many"] spNames) (bNm : Binds K fdNm ["pen", "many"] []) (gNm : mg "_law_names" = some (.ref fNm))
    (FBk : Fun K "_law_book" "_law_book" sBook fBk fdBk) (GBk : FnOk P w K mg base CX0 4 fBk fdBk ["pen", "base", "names", "most"] (spBook K)) (bBk : Binds K fdBk ["pen", "base", "names", "most"] []) (gBk : mg "_law_book" = some (.ref fBk))
    (FLv : Fun K "_law_live" "_law_live" sLLive fLv fdLv) (GLv : FnOk P w K mg base CX0 1 fLv fdLv ["rows", "digits"] (spLLive K)) (bLv : Binds K fdLv ["rows", "digits"] []) (gLv : mg "_law_live" = some (.ref fLv))
    (FLw : Fun K "_law_way" "_law_way" sLWay fLw fdLw) (GLw : FnOk P w K mg base CX0 3 fLw fdLw ["pen", "book", "ends", "name"] (spLWay K)) (bLw : Binds K fdLw ["pen", "book", "ends", "name"] []) (gLw : mg "_law_way" = some (.ref fLw))
    (FDu : Fun K "_law_due" "_law_due" sDue fDu fdDu) (GDu : FnOk P w K mg base CX0 3 fDu fdDu ["book", "name", "stem", "ring"] (spDueG K)) (bDu : Binds K fdDu ["book", "name", "stem", "ring"] []) (gDu : mg "_law_due" = some (.ref fDu))
    (FS : Fun K "_law_same" "_law_same" sSame fS fdS) (GS : FnOk P w K mg base CX0 4 fS fdS ["found", "due"] (spSame K 4)) (bS : Binds K fdS ["found", "due"] []) (gS : mg "_law_same" = some (.ref fS))
    (FTd : Fun K "_law_told" "_law_told" sTold fTd fdTd) (GTd : FnG P w K mg base 5 fTd fdTd ["book", "name", "stem", "ring"] (spToldG K)) (bTd : Binds K fdTd ["book", "name", "stem", "ring"] []) (gTd : mg "_law_told" = some (.ref fTd))
    (FBt : Fun K "_law_bent" "_law_bent" sBent fBt fdBt) (GBt : FnOk P w K mg base CX0 3 fBt fdBt ["pen", "book", "stem", "ring"] (spBent K)) (bBt : Binds K fdBt ["pen", "book", "stem", "ring"] []) (gBt : mg "_law_bent" = some (.ref fBt)) :
    AtTop P w K mg base f fd ["script"] (spLaw K) := by
  refine top_ok (k := 5) F scLaw (fun vs H Q E h => ?_) ⟨rfl, by decide, by decide⟩ (fun cdv out s H vs Q E hr h => ?_)
  · obtain ⟨a, ns, rfl, _⟩ := h
    rfl
  · obtain ⟨a, ns0, rfl, hS, hlen, k⟩ := h
    have hr1 : Room 1 _ := hr.mono (by decide)
    have hr2 : Room 2 _ := hr.mono (by decide)
    have hr3 : Room 3 _ := hr.mono (by decide)
    have hr4 : Room 4 _ := hr.mono (by decide)
    have hr5 := hr
    refine ⟨_, (pss_cons (ps_set (i := 1) scLaw.nd rfl (Or.inl rfl) (pe_call GO hr1 (by rfl) gO FO.kp bO .nil pass0 (pa_cons (pv 0) pa_nil)))
      (pss_cons (ps_for PassesOwn.never rfl (pi_range1 (by rfl) T.range (pa_cons pe_int pa_nil)) (pg_name (i := 2) scLaw.nd rfl (Or.inl rfl)) (pss_cons (ps_set (i := 3) scLaw.nd rfl (Or.inl rfl) (pe_op op_add pe_int (pe_call GT hr2 (by rfl) gT FT.kp bT .nil pass0 (pa_cons (pv 1) (pa_cons pe_int pa_nil)))))
      (C8.pss_cut (ps_set (i := 4) scLaw.nd rfl (Or.inl rfl) (pe_call GBk hr4 (by rfl) gBk FBk.kp bBk .nil pass0 (pa_cons (pv 1) (pa_cons (pv 3) (pa_cons (pe_call GNm hr3 (by rfl) gNm FNm.kp bNm .nil pass0 (pa_cons (pv 1) (pa_cons (pe_op op_add pe_int (pe_call GT hr2 (by rfl) gT FT.kp bT .nil pass0 (pa_cons (pv 1) (pa_cons pe_int pa_nil)))) pa_nil))) (pa_cons pe_int pa_nil))))))
      (pss_cons (ps_set (i := 5) scLaw.nd rfl (Or.inl rfl) (pe_call GLv hr1 (by rfl) gLv FLv.kp bLv .nil pass0 (pa_cons (pe_ix ix_tup (pv 4) pe_int (fun _ _ => rfl)) (pa_cons (pe_listRg rfl (by rfl) T.list (prg_1 (by rfl) T.range (pv 3))) pa_nil))))
      (pss_cons (ps_set (i := 6) scLaw.nd rfl (Or.inl rfl) (pe_callB (cr_repr rfl hr.repr) (by rfl) T.repr boot_repr (pa_cons (pv 4) pa_nil)))
      (pss_cons (ps_for PassesOwn.never rfl (pi_list (pv 5)) (pg_name (i := 7) scLaw.nd rfl (Or.inl rfl)) (pss_cons (ps_asg (pe_call GLw hr3 (by rfl) gLw FLw.kp bLw .nil pass0 (pa_cons (pv 1) (pa_cons (pv 4) (pa_cons (pv 5) (pa_cons (pv 7) pa_nil))))) (pg_tup (by rfl) (pgs_cons (pg_name (i := 8) scLaw.nd rfl (Or.inl rfl)) (pgs_cons (pg_name (i := 9) scLaw.nd rfl (Or.inl rfl)) pgs_nil))))
      (pss_cons (ps_set (i := 10) scLaw.nd rfl (Or.inl rfl) (pe_call GDu hr3 (by rfl) gDu FDu.kp bDu .nil pass0 (pa_cons (pv 4) (pa_cons (pv 7) (pa_cons (pv 8) (pa_cons (pv 9) pa_nil))))))
      (C8.pss_cut (ps_set (i := 11) scLaw.nd rfl (Or.inl rfl) (pe_lstS (pa_cons (pe_tupS (pa_cons (pv 8) (pa_cons (pv 9) pa_nil))) (pa_cons (pe_tupS (pa_cons (pv 8) (pa_cons (pe_op op_catE (pv 9) (pv 9)) pa_nil))) (pa_cons (pe_tupS (pa_cons (pe_op op_catE (pv 8) (pv 9)) (pa_cons (pv 9) pa_nil))) (pa_cons (pe_tupS (pa_cons (pe_op op_catE (pv 8) (pe_slice sl_tupE (pv 9) po_none (po_some pe_int))) (pa_cons (pe_op op_catE (pe_slice sl_tupE (pv 9) (po_some pe_int) po_none) (pe_slice sl_tupE (pv 9) po_none (po_some pe_int))) pa_nil))) pa_nil))))))
      (pss_cons (ps_for PassesOwn.never rfl (pi_list (pv 11)) (pg_tup (by rfl) (pgs_cons (pg_name (i := 12) scLaw.nd rfl (Or.inl rfl)) (pgs_cons (pg_name (i := 13) scLaw.nd rfl (Or.inl rfl)) pgs_nil))) (pss_one (ps_if (PW.pt (pw_or (pt_cmpR (op_eqD hr.units) (pv 10) pe_str (nomark _)) (pw_or1 (pt_not (pt_val (pe_call GS hr4 (by rfl) gS FS.kp bS .nil pass0 (pa_cons (pe_callG GTd rfl hr5 (by rfl) gTd FTd.kp bTd (pa_cons (pv 4) (pa_cons (pv 7) (pa_cons (pv 12) (pa_cons (pv 13) pa_nil))))) (pa_cons (pv 10) pa_nil)))))))) (pss_one (ps_ret pe_bl)) pss_nil)))
      (pss_one (ps_for PassesOwn.never rfl (pi_range1 (by rfl) T.range (pa_cons pe_int pa_nil)) (pg_name (i := 14) scLaw.nd rfl (Or.inl rfl)) (pss_cons (ps_asg (pe_call GBt hr3 (by rfl) gBt FBt.kp bBt .nil pass0 (pa_cons (pv 1) (pa_cons (pv 4) (pa_cons (pv 8) (pa_cons (pv 9) pa_nil))))) (pg_tup (by rfl) (pgs_cons (pg_name (i := 12) scLaw.nd rfl (Or.inl rfl)) (pgs_cons (pg_name (i := 13) scLaw.nd rfl (Or.inl rfl)) pgs_nil))))
      (pss_one (ps_if (pt_not (pt_val (pe_call GS hr4 (by rfl) gS FS.kp bS .nil pass0 (pa_cons (pe_callG GTd rfl hr5 (by rfl) gTd FTd.kp bTd (pa_cons (pv 4) (pa_cons (pv 7) (pa_cons (pv 12) (pa_cons (pv 13) pa_nil))))) (pa_cons (pe_call GDu hr3 (by rfl) gDu FDu.kp bDu .nil pass0 (pa_cons (pv 4) (pa_cons (pv 7) (pa_cons (pv 12) (pa_cons (pv 13) pa_nil))))) pa_nil))))) (pss_one (ps_ret pe_bl)) pss_nil))))))))))
      (pss_one (ps_orLock (ps_for PassesOwn.never rfl (pi_keys (pe_ix ix_tup (pv 4) pe_int (fun _ _ => rfl))) (pg_name (i := 7) scLaw.nd rfl (Or.inl rfl)) (pss_one (ps_if (PW.pt (pw_or (pt_cmpR op_ne (pe_callG GTd rfl hr5 (by rfl) gTd FTd.kp bTd (pa_cons (pv 4) (pa_cons (pv 7) (pa_cons (pe_tupS pa_nil) (pa_cons (pe_tupS pa_nil) pa_nil))))) pe_str (nomark _)) (pw_or1 (pt_cmpR op_ne (pe_callB (cr_reprF rfl hr.repr) (by rfl) T.repr boot_repr (pa_cons (pv 4) pa_nil)) (pv 6) (nomark _))))) (pss_one (ps_ret pe_bl)) pss_nil)))))))))))
      (pss_one (ps_ret pe_bl)))), ?_⟩
    refine ⟨_, rfl, a, ns0, rfl, hS, hlen, fun p H1 np s1 P1 => ?_⟩
    obtain ⟨pc, C1⟩ := P1.c
    refine ⟨5, rfl, by decide, by decide, for_range (n := 5) (fun i σ H2 => ∃ (x2 x3 x4 x5 x6 x7 x8 x9 x10 x11 x12 x13 x14 : Option V), σ = [some (.ref a), some (.ref p), x2, x3, x4, x5, x6, x7, x8, x9, x10, x11, x12, x13, x14] ∧ PenC H2 p pc (10000 * i)) ⟨none, none, none, none, none, none, none, none, none, none, none, none, none, rfl, C1⟩ ?_ ?_⟩
    · rintro i σ H2 hi ⟨x2, x3, x4, x5, x6, x7, x8, x9, x10, x11, x12, x13, x14, rfl, C2⟩
      refine ⟨_, rfl, p, pc, 9, _, rfl, by decide, by decide, C2, by omega, fun m H3 m0 m1 b3 C3 => ?_⟩
      refine ⟨_, _, rfl, rfl, ?_⟩
      dsimp only
      generalize hb : 2 + m = b
      have b0 : 2 ≤ b := by omega
      have b1 : b ≤ 10 := by omega
      refine ⟨(fun σ HA => ∃ (bk rr : Addr) (ns : List Str) (rws : List (List (Int × Str))) (G : Hp) (y2 : Option V), σ = [some (.ref a), some (.ref p), y2, some (.int b), some (.ref bk), x5, x6, x7, x8, x9, x10, x11, x12, x13, x14] ∧ PenC HA p pc (10000 * i + 1000) ∧ Bk K G HA p bk rr b ns rws ∧ Dq K G (.ref bk) (bookD b ns rws)), ?_, ?_⟩
      · refine ⟨_, rfl, _, rfl, _, rfl, _, rfl, p, pc, 6, _, rfl, by decide, by decide, C3, by omega, fun m2 H4 m20 m21 b4 C4 => ?_⟩
        obtain ⟨mn, rfl⟩ : ∃ c : Nat, m2 = (c : Int) := ⟨m2.toNat, by omega⟩
        refine ⟨_, _, rfl, rfl, ?_⟩
        refine ⟨p, pc, 1 + mn, _, by rw [Int.natCast_add]; rfl, by omega, C4, by omega, fun ln ns H5 nok nln b5 C5 hln => ?_⟩
        have nl : ns.length = 1 + mn := nok.len
        have n0 : ns ≠ [] := fun z => by rw [z] at nl; simp at nl; omega
        have nok' : NamesOk ns ns.length := ⟨rfl, nok.nod, nok.ok⟩
        have lnp : ln ≠ p := pen_not C4.any nln
        refine ⟨p, pc, ln, b, ns, 4, _, fun _ => none, rfl, b0, b1, n0, nok', by omega, by decide, C5, by omega, same0 _, rfl, lnp, hln, fun v rws G8 H8 m8 C8' dq8 B8 => ?_⟩
        obtain ⟨bk, rr, rfl, gbk, RA⟩ := dq_book B8.len dq8
        exact ⟨bk, rr, ns, rws, G8, _, rfl, C8'.same (Same.refl _) (by omega), ⟨m8.gh, m8.gp rfl, gbk, RA, B8⟩, dq8⟩
      rintro σ HA ⟨bk, rr, ns, rws, G, y2, rfl, CA, BA, dqA⟩
      obtain ⟨kvs, RA⟩ := RowsR.of BA.rows BA.same
      have bkr : bk ≠ rr := fun e => by
        obtain ⟨kv, h1, _⟩ := BA.rows.ex
        have := BA.gb
        rw [e, h1] at this; cases this
      have rrp : rr ≠ p := fun e => by
        obtain ⟨kv, h1, _⟩ := BA.rows.ex
        rw [e, BA.gp] at h1; cases h1
      have RwA : Rw K (del G rr) HA p bk rr b ns rws kvs := ⟨RA, BA.ok, (del_ne bkr).trans BA.gb, by rw [del_ne rrp.symm]; exact BA.gp, rrp⟩
      -- ends
      refine ⟨_, rfl, bk, _, 1, .ref rr, rfl, rfl, SqT.of (BA.same _ _ BA.gb), atI_nat (j := 1) rfl, _, rfl, b, rfl, RgOk.of_le (by decide) (by omega) (by decide) (by omega), fun dl ndl => ?_⟩
      have edl : rgV 0 b = ((List.range b.toNat).map fun i : Nat => (i : Int)).map V.int := by
        unfold rgV
        rw [List.map_map, Int.sub_zero]
        exact List.map_congr_left fun i _ => by show V.int (0 + (i : Int)) = V.int (i : Int); rw [Int.zero_add]
      rw [edl]
      have sdl : Same HA (upd HA dl (.lst (((List.range b.toNat).map fun i : Nat => (i : Int)).map V.int))) := Same.upd ndl
      refine ⟨rr, dl, b, ns, rws, kvs, del G rr, rfl, RA.more sdl, BA.ok, upd_same, fun la L HB sB nla hla sub Lon => ?_⟩
      have sAB := sdl.trans sB
      have lap : la ≠ p := pen_not (CA.same sdl (Nat.le_refl _)).any nla
      have lar : la ≠ rr := fun e => by
        have := rd_there (RA.more sdl).rd
        rw [← e] at this; exact this nla
      have LinNs : ∀ y ∈ L, y ∈ ns := fun y hy => by obtain ⟨q, rfl⟩ := sub; exact (List.mem_filter.mp hy).1
      -- before
      have sw := shw_book BA.ok
      have sz : (bookD b ns rws).shown.length ≤ sizeLine := by have := sw.ln; rw [sizeLine_eq]; omega
      have dp : (bookD b ns rws).depth ≤ 100 := by have := sw.dp; omega
      refine ⟨_, rfl, .ref bk, bookD b ns rws, G, rfl, BA.same.trans sAB, dqA, sw.sh, (fun _ => sw.nl), dp, sz, ?_⟩
      generalize htx : (bookD b ns rws).shown = tx
      have BB := BA.ok
      -- ways
      refine ⟨_, rfl, la, rfl, ⟨_, SqL.of hla⟩, for_list (K := K) (a := la) (xs := L.map V.str) (fun j σ HE => ∃ (y2 y7 y8 y9 y10 y11 y12 y13 y14 : Option V), σ = [some (.ref a), some (.ref p), y2, some (.int b), some (.ref bk), some (.ref la), some (.str tx), y7, y8, y9, y10, y11, y12, y13, y14] ∧ But p HB HE ∧ PenC HE p pc (10000 * i + 1000 + 100 * j)) ⟨_, _, _, _, _, _, _, _, _, rfl, (fun _ _ _ h => h), CA.same sAB (by omega)⟩ (fun j σ HE _ q => SqL.of (by obtain ⟨_, _, _, _, _, _, _, _, _, _, q, _⟩ := q; exact q _ _ lap hla)) ?_ ?_⟩
      · rintro j u σ HE hu ⟨y2, y7, y8, y9, y10, y11, y12, y13, y14, rfl, bE, CE⟩
        obtain ⟨x, hx, rfl⟩ : ∃ x, L[j]? = some x ∧ u = .str x := by
          rw [List.getElem?_map] at hu
          obtain ⟨x, h1, h2⟩ := Option.map_eq_some_iff.mp hu
          exact ⟨x, h1, h2.symm⟩
        have xL := List.mem_of_getElem? hx
        have xin := LinNs x xL
        have jL : j < L.length := (List.getElem?_eq_some_iff.mp hx).1
        have L8 : L.length ≤ 8 := by
          obtain ⟨q, rfl⟩ := sub
          have := List.length_filter_le q ns
          have := BB.n8
          omega
        have RwE := (RwA.more sAB).but bE
        refine ⟨_, rfl, _, rfl, _, rfl, _, rfl, p, pc, bk, rr, la, x, b, ns, rws, kvs, L, _, del G rr, rfl, CE, by omega, RwE.gp, RwE.rows, RwE.ok, RwE.gb, bE _ _ lap hla, lap, LinNs, Lon, xL, fun r P1 P2 HG bG CG dqr path back ne len20 => ?_⟩
        cases dqr with
        | tup ht hall =>
          cases hall with
          | cons d1 r1 =>
            cases r1 with
            | cons d2 r2 =>
              cases r2
              rename_i v1 v2
              have sdel : Same (del HG p) HG := del_same
              have RwG := RwE.but bG
              have inb : ∀ q ∈ P1 ++ P2, InB b ns q := fun q hq => by
                obtain ⟨m, hm⟩ := List.mem_iff_getElem?.mp hq
                exact BB.inb (path_at path hm).1
              have in1 : ∀ q ∈ P1, InB b ns q := fun q hq => inb q (List.mem_append_left _ hq)
              have in2 : ∀ q ∈ P2, InB b ns q := fun q hq => inb q (List.mem_append_right _ hq)
              have r1 : RP K p HG v1 P1 := RP.of d1
              have r2 : RP K p HG v2 P2 := RP.of d2
              have r2' := r2
              have dP1 : Digs b (P1.map (·.1)) := fun d hd => path_digs BB path d (by rw [List.map_append]; exact List.mem_append_left _ hd)
              have dP2 : Digs b (P2.map (·.1)) := fun d hd => path_digs BB path d (by rw [List.map_append]; exact List.mem_append_right _ hd)
              have nP2 : P2.map (·.1) ≠ [] := fun e => ne (List.map_eq_nil_iff.mp e)
              obtain ⟨q0, T2, hP2⟩ := List.exists_cons_of_ne_nil ne
              -- the way gone on
              have p12 := path_app.mp path
              have back2 : endOf (endOf x P1) P2 = endOf x P1 := by rw [← endOf_app]; exact back
              have long : Path (rowAt ns rws) x (P1 ++ (P2 ++ (P2 ++ P2))) := path_app.mpr ⟨p12.1, path_app.mpr ⟨p12.2, by rw [back2]; exact path_app.mpr ⟨p12.2, by rw [back2]; exact p12.2⟩⟩⟩
              have f12 : FineG (rowD P1) ∧ FineG (rowD P2) := by
                obtain ⟨_, x1, pt1⟩ := (r1.tp BB in1 (Nat.le_refl _)).part (by omega)
                obtain ⟨_, x2, pt2⟩ := (r2.tp BB in2 (Nat.le_refl _)).part (by omega)
                refine ⟨fun e0 e1 hm => ?_, fun e0 e1 hm => ?_⟩
                · obtain ⟨z, hz, e⟩ := List.mem_map.mp hm
                  cases e
                  exact ⟨rfl, flat_name (BB.ok _ (in1 z hz).2.2)⟩
                · obtain ⟨z, hz, e⟩ := List.mem_map.mp hm
                  cases e
                  exact ⟨rfl, flat_name (BB.ok _ (in2 z hz).2.2)⟩
              have ok0 : okG (rowAt ns rws) x (rowD P1) (rowD P2) = true := okG_pre long ⟨T2 ++ P2, by rw [hP2]; simp⟩ ne
              have szP : sizeG (rowD P1) + sizeG (rowD P2) ≤ 900 := by
                show (P1.map _).length + (P2.map _).length ≤ 900
                rw [List.length_map, List.length_map]; omega
              refine ⟨r, _, rfl, SqT.of (sdel _ _ ht), rfl, _, _, rfl, _, _, rfl, rfl, ?_⟩
              -- due
              refine ⟨_, rfl, _, rfl, _, rfl, _, rfl, bk, rr, x, v1, v2, rowD P1, rowD P2, b, ns, rws, kvs, del G rr, del HG p, rfl, RwG.rows, BB, RwG.gb, xin, sdel, d1, d2, szP, f12.1, f12.2, (fun no => by rw [ok0] at no; cases no), fun Pa Pb _ ea eb dv HH sH ddv => ?_⟩
              obtain rfl := rowD_inj ea
              obtain rfl := rowD_inj eb
              have bGH : But p HG HH := But.of sH
              have r1H := r1.but bGH
              have r2H := r2.but bGH
              have CH := CG.same sH (Nat.le_refl _)
              have bBH : But p HB HH := (bE.trans bG).trans bGH
              generalize hfr : frD b (P1.map (·.1)) (P2.map (·.1)) = fr at ddv
              have gq : q0.1 :: T2.map (·.1) = P2.map (·.1) := by rw [hP2]; rfl
              have i3 : ∀ q ∈ P2 ++ P2, InB b ns q := fun q hq => by rcases List.mem_append.mp hq with h | h <;> exact in2 q h
              have l1 : P1.length ≤ 20 := by omega
              have l2 : P2.length ≤ 20 := by omega
              -- the four
              refine ⟨(fun σ Ho => ∃ (so : Addr) (ps : List V), σ = [some (.ref a), some (.ref p), y2, some (.int b), some (.ref bk), some (.ref la), some (.str tx), some (.str x), some v1, some v2, some dv, some (.ref so), y12, y13, y14] ∧ Ho so = some (.lst ps) ∧ (∀ v ∈ ps, SP K p Ho b (rowAt ns rws) x fr v) ∧ Same HH Ho), ?_, ?_⟩
              · refine ⟨_, rfl, _, rfl, by show 2 ≤ sizeLine; decide, fun t1 K1 u1 h1 => ?_⟩
                have c1 := CH.same u1 (Nat.le_refl _)
                have g1 := sp_mk (fr := fr) (f := rowAt ns rws) (x := x) c1 h1 BB (r1H.but (But.of u1)) (r2H.but (But.of u1)) in1 in2 (by omega) (by omega) ok0 hfr
                refine ⟨_, rfl, _, rfl, _, rfl, p, pc, P2, P2, _, c1, r2H.but (But.of u1), r2H.but (But.of u1), by omega, fun w2 K2 u2 z2 => ?_⟩
                have c2 := c1.same u2 (Nat.le_refl _)
                refine ⟨by show 2 ≤ sizeLine; decide, fun t2 K3 u3 h3 => ?_⟩
                have c3 := c2.same u3 (Nat.le_refl _)
                have u13 := (u1.trans u2).trans u3
                have g2 := sp_mk (fr := fr) (f := rowAt ns rws) (x := x) c3 h3 BB (r1H.but (But.of u13)) (z2.but (But.of u3)) in1 i3 (by omega) (by rw [List.length_append]; omega) (okG_pre long ⟨T2, by rw [hP2]; simp⟩ (by rw [hP2]; simp)) (by
                  rw [List.map_append, ← hfr]
                  have := frD_rounds BB.b0 dP1 dP2 nP2 0 (k := 2) (by decide)
                  simpa using this)
                refine ⟨_, rfl, _, rfl, p, pc, P1, P2, _, c3, r1H.but (But.of u13), r2H.but (But.of u13), by omega, fun w4 K4 u4 z4 => ?_⟩
                have c4 := c3.same u4 (Nat.le_refl _)
                refine ⟨_, rfl, by show 2 ≤ sizeLine; decide, fun t3 K5 u5 h5 => ?_⟩
                have c5 := c4.same u5 (Nat.le_refl _)
                have u15 := (u13.trans u4).trans u5
                have g3 := sp_mk (fr := fr) (f := rowAt ns rws) (x := x) c5 h5 BB (z4.but (But.of u5)) (r2H.but (But.of u15)) inb in2 (by rw [List.length_append]; omega) (by omega) (okG_pre long ⟨T2, by rw [hP2]; simp⟩ ne) (by
                  rw [List.map_append, ← hfr]
                  have := frD_rounds BB.b0 dP1 dP2 nP2 1 (k := 1) (by decide)
                  simpa using this)
                refine ⟨_, rfl, _, rfl, _, rfl, p, pc, P2, _, 1, c5, r2H.but (But.of u15), .inl ⟨rfl, rfl, fun w6 K6 u6 z6 => ?_⟩⟩
                have c6 := c5.same u6 (Nat.le_refl _)
                have u16 := u15.trans u6
                refine ⟨p, pc, P1, P2.take 1, _, c6, r1H.but (But.of u16), z6, by rw [List.length_take]; omega, fun w7 K7 u7 z7 => ?_⟩
                have c7 := c6.same u7 (Nat.le_refl _)
                have u17 := u16.trans u7
                refine ⟨_, rfl, _, rfl, p, pc, P2, _, 1, c7, r2H.but (But.of u17), .inr ⟨rfl, rfl, fun w8 K8 u8 z8 => ?_⟩⟩
                have c8 := c7.same u8 (Nat.le_refl _)
                have u18 := u17.trans u8
                refine ⟨_, rfl, _, rfl, p, pc, P2, _, 1, c8, r2H.but (But.of u18), .inl ⟨rfl, rfl, fun w9 K9 u9 z9 => ?_⟩⟩
                have c9 := c8.same u9 (Nat.le_refl _)
                refine ⟨p, pc, P2.drop 1, P2.take 1, _, c9, z8.but (But.of u9), z9, by rw [List.length_take, List.length_drop]; omega, fun w10 K10 u10 z10 => ?_⟩
                have c10 := c9.same u10 (Nat.le_refl _)
                have u810 := u8.trans (u9.trans u10)
                refine ⟨by show 2 ≤ sizeLine; decide, fun t4 K11 u11 h11 => ?_⟩
                have c11 := c10.same u11 (Nat.le_refl _)
                have g4 := sp_mk (fr := fr) (f := rowAt ns rws) (x := x) c11 h11 BB ((z7.but (But.of u810)).but (But.of u11)) (z10.but (But.of u11)) (fun q hq => by
                  rcases List.mem_append.mp hq with h | h
                  · exact in1 q h
                  · exact in2 q (List.mem_of_mem_take h)) (fun q hq => by
                  rcases List.mem_append.mp hq with h | h
                  · exact in2 q (List.mem_of_mem_drop h)
                  · exact in2 q (List.mem_of_mem_take h)) (by rw [List.length_append, List.length_take]; omega) (by rw [List.length_append, List.length_take, List.length_drop]; omega)
                  (okG_pre long (by
                    rw [hP2]
                    cases T2 with
                    | nil => exact ⟨[], by simp⟩
                    | cons t T' => exact ⟨T' ++ (q0 :: t :: T'), by simp⟩) (by rw [hP2]; simp)) (by
                  rw [← hfr, hP2]
                  have := frD_turn BB.b0 (S := P1.map (·.1)) (T := T2.map (·.1)) (q := q0.1) dP1 (by rw [gq]; exact dP2)
                  simpa using this)
                refine ⟨by show 4 ≤ sizeLine; decide, fun so K12 u12 n12 h12 => ?_⟩
                have u111 := (u17.trans u810).trans u11
                refine ⟨so, _, rfl, h12, ?_, u111.trans u12⟩
                have u5_12 := ((u6.trans u7).trans u810).trans (u11.trans u12)
                have u3_12 := (u4.trans u5).trans u5_12
                intro v hv
                simp only [List.mem_cons, List.not_mem_nil, or_false] at hv
                rcases hv with rfl | rfl | rfl | rfl
                · exact g1.but (But.of ((u2.trans u3).trans u3_12))
                · exact g2.but (But.of u3_12)
                · exact g3.but (But.of u5_12)
                · exact g4.but (But.of u12)
              rintro σ HI ⟨so, ps, rfl, hso, gps, sHI⟩
              have CI := CH.same sHI (Nat.le_refl _)
              have bBI := bBH.trans (But.of sHI)
              obtain ⟨qd, rfl, hqd⟩ := dq_pair (n := tp b (P1.map (·.1)) (P2.map (·.1)) / gN (tp b (P1.map (·.1)) (P2.map (·.1))) (bt b (P1.map (·.1)) (P2.map (·.1)))) (d := bt b (P1.map (·.1)) (P2.map (·.1)) / gN (tp b (P1.map (·.1)) (P2.map (·.1))) (bt b (P1.map (·.1)) (P2.map (·.1)))) (by rw [← hfr] at ddv; exact ddv)
              have efr : fr = iTup [tp b (P1.map (·.1)) (P2.map (·.1)) / gN (tp b (P1.map (·.1)) (P2.map (·.1))) (bt b (P1.map (·.1)) (P2.map (·.1))), bt b (P1.map (·.1)) (P2.map (·.1)) / gN (tp b (P1.map (·.1)) (P2.map (·.1))) (bt b (P1.map (·.1)) (P2.map (·.1)))] := hfr.symm
              clear hfr
              have RwI := (RwG.but bGH).but (But.of sHI)
              refine ⟨_, rfl, so, rfl, ⟨_, SqL.of hso⟩, for_list (K := K) (a := so) (xs := ps) (fun m σ HJ => ∃ (y12 y13 : Option V), σ = [some (.ref a), some (.ref p), y2, some (.int b), some (.ref bk), some (.ref la), some (.str tx), some (.str x), some v1, some v2, some (.ref qd), some (.ref so), y12, y13, y14] ∧ Same HI HJ) ⟨_, _, rfl, Same.refl _⟩ (fun m σ HJ _ q => SqL.of (by obtain ⟨_, _, _, q⟩ := q; exact q _ _ hso)) ?_ ?_⟩
              · rintro m u σ HJ hu ⟨y12, y13, rfl, sJ⟩
                obtain ⟨c, w1, w2, Q1, Q2, rfl, gc, dq1, dq2, okq, fq, ft⟩ := (gps u (List.mem_of_getElem? hu)).but (But.of (p := p) sJ)
                have sd : Same (del HJ p) HJ := del_same
                have hqJ := sJ _ _ (sHI _ _ hqd)
                have RwJ := RwI.but (But.of sJ)
                refine ⟨c, _, rfl, SqT.of (sd _ _ gc), rfl, _, _, rfl, _, _, rfl, rfl, ?_⟩
                refine ⟨_, rfl, fr, .str "refused", by rw [efr]; exact dp_ints hqJ, .str _, by rw [efr]; exact shaped_iTup _, by decide +kernel, _, rfl, ?_⟩
                refine ifF (by rw [efr]; rfl) ?_
                refine ⟨_, rfl, _, rfl, _, rfl, _, rfl, bk, rr, x, w1, w2, rowD Q1, rowD Q2, b, ns, rws, kvs, del G rr, del HJ p, rfl, RwJ.rows, BB, RwJ.gb, xin, sd, dq1, dq2, ft.sz, ft.sh, (fun no => by rw [okq] at no; cases no), fun Pa Pb _ ea eb tv HK sK dtv => ?_⟩
                obtain rfl := rowD_inj ea
                obtain rfl := rowD_inj eb
                rw [fq] at dtv
                refine ⟨_, rfl, tv, .ref qd, fr, rfl, dtv, by rw [efr]; exact dq_mk (sK _ _ hqJ), by rw [efr]; exact sh_ints (l := [_, _]) (by simp) 2, fun HL sL => ⟨_, rfl, iteF ⟨_, _, rfl, (sJ.trans sK).trans sL⟩⟩⟩
              · rintro σ HJ ⟨y12, y13, rfl, sJ⟩
                have CJ := CI.same sJ (Nat.le_refl _)
                have RwJ := RwI.but (But.of sJ)
                have bBJ := bBI.trans (But.of sJ)
                have bGJ := (bGH.trans (But.of sHI)).trans (But.of sJ)
                obtain ⟨ra, xs2, ev2, gra, qra⟩ := r2
                subst ev2
                rw [hP2] at qra
                cases qra with
                | cons w0 wr =>
                  cases w0 with
                  | tup t1 t2 =>
                    cases t2 with
                    | cons x1 x2 =>
                      cases x2 with
                      | cons x3 x4 =>
                        cases x4
                        cases x1
                        cases x3
                        rename_i rs c0
                        have BsJ : Bs K (del G rr) p bk rr b ns rws kvs v1 ra c0 rs q0 HJ := ⟨RwJ, (r1.but bGJ).tp BB in1 (by omega), (r2'.but bGJ).tp BB in2 (by omega), del_but bGJ _ _ gra, del_but bGJ _ _ t1, in2 q0 (by rw [hP2]; exact List.mem_cons_self)⟩
                        refine ⟨3, rfl, by decide, by decide, for_range (n := 3) (fun m σ HM => ∃ (y12 y13 y14 : Option V), σ = [some (.ref a), some (.ref p), y2, some (.int b), some (.ref bk), some (.ref la), some (.str tx), some (.str x), some v1, some (.ref ra), some (.ref qd), some (.ref so), y12, y13, y14] ∧ But p HJ HM ∧ PenC HM p pc (10000 * i + 1000 + 100 * j + 20 + 20 * m)) ⟨_, _, _, rfl, (fun _ _ _ h => h), CJ⟩ ?_ ?_⟩
                        · rintro m σ HM hm ⟨y12, y13, y14, rfl, bM, CM⟩
                          refine ⟨_, rfl, _, rfl, _, rfl, _, rfl, del G rr, p, pc, bk, rr, b, ns, rws, kvs, v1, ra, c0, rs, q0, _, rfl, CM, by omega, BsJ.but bM, fun v HN bN CN gp => ?_⟩
                          obtain ⟨c, w1, w2, D1, D2, rfl, gc, dq1, dq2, ft⟩ := gp
                          have sd : Same (del HN p) HN := del_same
                          have RwN := (RwJ.but bM).but bN
                          refine ⟨c, _, rfl, SqT.of (sd _ _ gc), rfl, _, _, rfl, _, _, rfl, rfl, ?_⟩
                          refine ⟨_, rfl, _, rfl, _, rfl, _, rfl, bk, rr, x, w1, w2, D1, D2, b, ns, rws, kvs, del G rr, del HN p, rfl, RwN.rows, BB, RwN.gb, xin, sd, dq1, dq2, ft.sz, ft.sh, fun no HO sO => ?_, fun Pa Pb yes ea eb tv HO sO dtv => ?_⟩
                          · have RwO := RwN.more sO
                            refine ⟨_, rfl, _, rfl, _, rfl, _, rfl, bk, rr, x, w1, w2, D1, D2, b, ns, rws, kvs, del G rr, del HN p, rfl, RwO.rows, BB, RwO.gb, xin, sd.trans sO, dq1, dq2, ft.sz, ft.f1, ft.f2, fun _ HQ sQ => ?_, fun _ _ yes => by rw [no] at yes; cases yes⟩
                            refine ⟨.str "refused", .str "refused", .str "refused", rfl, .str _, .str _, trivial, fun HR sR => ⟨_, rfl, iteF ⟨_, _, _, rfl, (bM.trans bN).trans (But.of ((sO.trans sQ).trans sR)), ((CN.same sO (Nat.le_refl _)).same sQ (Nat.le_refl _)).same sR (by omega)⟩⟩⟩
                          · subst ea
                            subst eb
                            have RwO := RwN.more sO
                            refine ⟨_, rfl, _, rfl, _, rfl, _, rfl, bk, rr, x, w1, w2, rowD Pa, rowD Pb, b, ns, rws, kvs, del G rr, del HN p, rfl, RwO.rows, BB, RwO.gb, xin, sd.trans sO, dq1, dq2, ft.sz, ft.f1, ft.f2, (fun no => by rw [yes] at no; cases no), fun Pc Pd _ ec ed uv HQ sQ duv => ?_⟩
                            obtain rfl := rowD_inj ec
                            obtain rfl := rowD_inj ed
                            refine ⟨tv, uv, _, rfl, dtv.mono sQ, duv, sh_ints (l := [_, _]) (by simp) 2, fun HR sR => ⟨_, rfl, iteF ⟨_, _, _, rfl, (bM.trans bN).trans (But.of ((sO.trans sQ).trans sR)), ((CN.same sO (Nat.le_refl _)).same sQ (Nat.le_refl _)).same sR (by omega)⟩⟩⟩
                        · rintro σ HM ⟨y12, y13, y14, rfl, bM, CM⟩
                          exact ⟨_, _, _, _, _, _, _, _, _, rfl, bBJ.trans bM, CM.same (Same.refl _) (by omega)⟩
      · rintro σ HE ⟨y2, y7, y8, y9, y10, y11, y12, y13, y14, rfl, bE, CE⟩
        have RwE := (RwA.more sAB).but bE
        have CE' : PenC HE p pc (10000 * i + 9000) := CE.same (Same.refl _) (by
          rw [List.length_map]
          have L8 : L.length ≤ 8 := by
            obtain ⟨q, rfl⟩ := sub
            have := List.length_filter_le q ns
            have := BB.n8
            omega
          omega)
        have dqk : ∃ hk : G rr = some (.dK kvs), DqAll K G (kvs.map fun kv => kV kv.1) (((ns.zip rws).map fun z => (PyData.str z.1, rowD z.2)).map (·.1)) ∧ DqAll K G (kvs.map (·.2)) (((ns.zip rws).map fun z => (PyData.str z.1, rowD z.2)).map (·.2)) := by
          have key : ∀ {xs : List V}, G bk = some (.tup xs) → DqAll K G xs [.int b, .dict ((ns.zip rws).map fun z => (PyData.str z.1, rowD z.2))] → ∃ hk : G rr = some (.dK kvs), DqAll K G (kvs.map fun kv => kV kv.1) (((ns.zip rws).map fun z => (PyData.str z.1, rowD z.2)).map (·.1)) ∧ DqAll K G (kvs.map (·.2)) (((ns.zip rws).map fun z => (PyData.str z.1, rowD z.2)).map (·.2)) := fun {xs} hb ha => by
            rw [BA.gb] at hb
            cases hb
            cases ha with
            | cons a0 a1 =>
              cases a1 with
              | cons a1 a2 =>
                cases a1 with
                | dct hs hk hv =>
                  have h1 := BA.same _ _ hs
                  rcases RwA.rows.rd with h2 | ⟨o, h2⟩
                  · rw [h1] at h2
                    cases h2
                    exact ⟨hs, hk, hv⟩
                  · rw [h1] at h2; cases h2
          cases dqA with
          | tup hs ha => exact key hs ha
        obtain ⟨hk0, hk1, hk2⟩ := dqk
        have nd1 : PyData.hasDictAll (((ns.zip rws).map fun z => (PyData.str z.1, rowD z.2)).map (·.1)) = false := by
          cases e : PyData.hasDictAll (((ns.zip rws).map fun z => (PyData.str z.1, rowD z.2)).map (·.1)) with
          | false => rfl
          | true =>
            obtain ⟨d, hd, h⟩ := hasDictAll_of _ e
            rw [List.map_map] at hd
            obtain ⟨z, _, rfl⟩ := List.mem_map.mp hd
            simp [PyData.hasDict] at h
        have nd2 : PyData.hasDictAll (((ns.zip rws).map fun z => (PyData.str z.1, rowD z.2)).map (·.2)) = false := by
          cases e : PyData.hasDictAll (((ns.zip rws).map fun z => (PyData.str z.1, rowD z.2)).map (·.2)) with
          | false => rfl
          | true =>
            obtain ⟨d, hd, h⟩ := hasDictAll_of _ e
            rw [List.map_map] at hd
            obtain ⟨z, _, rfl⟩ := List.mem_map.mp hd
            have h3 : (rowD z.2).hasDict = true := h
            rw [rowD_eq] at h3
            simp only [PyData.hasDict] at h3
            obtain ⟨d, hd, h⟩ := hasDictAll_of _ h3
            obtain ⟨q, _, rfl⟩ := List.mem_map.mp hd
            simp [pairP, PyData.hasDict, PyData.hasDictAll] at h
        have hk1' := DqAll.del hk0 nd1 hk1
        have hk2' := DqAll.del hk0 nd2 hk2
        refine orLock_by RwE.rows.rd trivial fun D1 od H5 fr a1 knx krt => ?_
        have Rw5 := RwE.lock fr a1
        have C5 : PenC H5 p pc (10000 * i + 9000) := CE'.flip RwE.rows.rd a1 (Nat.le_refl _)
        refine ⟨_, rfl, bk, _, 1, .ref rr, rfl, rfl, SqT.of (Rw5.rows.same _ _ Rw5.gb), atI_nat (j := 1) rfl, rr, od, rfl, .inl ⟨kvs, fr, ?_⟩⟩
        refine for_it (walk_keys (o := od) (d := rr) (kvs := kvs)) (fun j σ HK => ∃ (y7 : Option V), σ = [some (.ref a), some (.ref p), y2, some (.int b), some (.ref bk), some (.ref la), some (.str tx), y7, y8, y9, y10, y11, y12, y13, y14] ∧ Same H5 HK) ?_ ?_ ?_ ?_
        · exact ⟨_, rfl, Same.refl _⟩
        · rintro j σ HK _ ⟨_, _, s5⟩
          exact s5 _ _ fr
        · rintro j xk σ HK0 HK hj ⟨y7, rfl, s5⟩ ⟨rfl, kk, vv, hkv, rfl⟩
          obtain ⟨nm, hnm, ek⟩ := Rw5.rows.key hkv
          rw [ek]
          have nin := List.mem_of_getElem? hnm
          have RwK := Rw5.more s5
          have CK := C5.same s5 (Nat.le_refl _)
          refine ⟨_, rfl, _, rfl, by show 0 ≤ sizeLine; decide, fun t1 K1 u1 h1 => ⟨by show 0 ≤ sizeLine; decide, fun t2 K2 u2 h2 => ?_⟩⟩
          have c1 := CK.same u1 (Nat.le_refl _)
          have c2 := c1.same u2 (Nat.le_refl _)
          have u12 := u1.trans u2
          have Rw2 := RwK.more u12
          have ft := fit_of (hd := false) (hl := false) (part_tup (l := []) (fun _ z => nomatch z) (by decide)) (part_tup (l := []) (fun _ z => nomatch z) (by decide)) rfl
          refine ⟨bk, rr, nm, .ref t1, .ref t2, .tuple [], .tuple [], b, ns, rws, kvs, del G rr, del K2 p, rfl, Rw2.rows, BB, Rw2.gb, nin, del_same, .tup (tup_del c2 (u2 _ _ h1)) .nil, .tup (tup_del c2 h2) .nil, ft.sz, ft.sh, fun _ K3 u3 => ?_, fun _ _ yes => nomatch yes⟩
          have Rw3 := Rw2.more u3
          have s53 := (s5.trans u12).trans u3
          refine ⟨rfl, _, rfl, ifF (by simp) ?_⟩
          refine ⟨_, rfl, bk, rr, b, od, kvs, _, rfl, Rw3.rows.same _ _ Rw3.gb, s53 _ _ fr, hk1'.mono Rw3.rows.same, hk2'.mono Rw3.rows.same, sw.sh, sw.nl, dp, sz, ?_⟩
          rw [show (PyData.tuple [.int b, .dict ((ns.zip rws).map fun z => (PyData.str z.1, rowD z.2))]).shown = tx from htx]
          refine ⟨_, rfl, rfl, _, rfl, ifF (by simp) ?_⟩
          exact ⟨_, rfl, s53⟩
        · rintro σ HK ⟨y7, rfl, s5⟩
          refine knx _ HK (s5 _ _ fr) fun H'' a2 e2 => ?_
          exact ⟨_, _, _, _, _, _, _, _, _, _, _, _, _, rfl, (C5.same s5 (Nat.le_refl _)).flip (.inr ⟨od, s5 _ _ fr⟩) a2 (by omega)⟩
    · rintro σ H2 ⟨x2, x3, x4, x5, x6, x7, x8, x9, x10, x11, x12, x13, x14, rfl, C2⟩
      exact k _
end
end My

namespace My
open PySem PySem.Spec PyProof.Rows L2
theorem all_mk {l : PySem.W.OpenLaw} {w : World} {K : PySem.W.Frag} {h : Heap} {mg : Str → Option Value} {fa q0 q1 q2 q3 q4 q5 q6 q7 q8 q9 D C f1 f2 f3 f4 f5 f6 f7 f8 f9 f10 f11 f12 f13 f14 f15 f16 f17 f18 f19 f20 f21 f22 f23 f24 f25 : Addr} (X : K.In h) (G : h.Ns mainGlobals mg) (hfa : mg "law" = some (.ref fa))
    {od1 an1 od2 an2 od3 an3 od4 an4 od5 an5 od6 an6 od7 an7 od8 an8 od9 an9 od10 an10 od11 an11 od12 an12 od13 an13 od14 an14 od15 an15 od16 an16 od17 an17 od18 an18 od19 an19 od20 an20 od21 an21 od22 an22 od23 an23 od24 an24 od25 an25 : Option Addr} {sl1 sl2 sl3 sl4 sl5 sl6 sl7 sl8 sl9 sl10 sl11 sl12 sl13 sl14 sl15 sl16 sl17 sl18 sl19 sl20 sl21 sl22 sl23 sl24 sl25 : Array (Option Value)} {oc1 kV1 dc1 pm1 cd1 ct1 oc2 kV2 dc2 pm2 cd2 ct2 oc3 kV3 dc3 pm3 cd3 ct3 oc4 kV4 dc4 pm4 cd4 ct4 oc5 kV5 dc5 pm5 cd5 ct5 oc6 kV6 dc6 pm6 cd6 ct6 oc7 kV7 dc7 pm7 cd7 ct7 oc8 kV8 dc8 pm8 cd8 ct8 oc9 kV9 dc9 pm9 cd9 ct9 oc10 kV10 dc10 pm10 cd10 ct10 oc11 kV11 dc11 pm11 cd11 ct11 oc12 kV12 dc12 pm12 cd12 ct12 oc13 kV13 dc13 pm13 cd13 ct13 oc14 kV14 dc14 pm14 cd14 ct14 oc15 kV15 dc15 pm15 cd15 ct15 oc16 kV16 dc16 pm16 cd16 ct16 oc17 kV17 dc17 pm17 cd17 ct17 oc18 kV18 dc18 pm18 cd18 ct18 oc19 kV19 dc19 pm19 cd19 ct19 oc20 kV20 dc20 pm20 cd20 ct20 oc21 kV21 dc21 pm21 cd21 ct21 oc22 kV22 dc22 pm22 cd22 ct22 oc23 kV23 dc23 pm23 cd23 ct23 oc24 kV24 dc24 pm24 cd24 ct24 oc25 kV25 dc25 pm25 cd25 ct25 : Value}
    (a1 : PySem.W.nsIn K mainGlobals "is_whole" = some (some (.ref f1))) (l1 : K.lookup f1 = some ⟨oc1, od1, .func (PySem.W.fnOf "is_whole" "is_whole" (defArgs sWhole) (defBody sWhole) (defScope sWhole) .none kV1 dc1 pm1 an1 cd1 ct1), sl1⟩) (c1 : PySem.W.codeIn K cd1 "is_whole" = true) (k1 : PySem.W.keepIn K (.ref f1) = true)
    (a2 : PySem.W.nsIn K mainGlobals "fraction_of" = some (some (.ref f2))) (l2 : K.lookup f2 = some ⟨oc2, od2, .func (PySem.W.fnOf "fraction_of" "fraction_of" (defArgs sFractionOf) (defBody sFractionOf) (defScope sFractionOf) .none kV2 dc2 pm2 an2 cd2 ct2), sl2⟩) (c2 : PySem.W.codeIn K cd2 "fraction_of" = true) (k2 : PySem.W.keepIn K (.ref f2) = true)
    (a3 : PySem.W.nsIn K mainGlobals "_once" = some (some (.ref f3))) (l3 : K.lookup f3 = some ⟨oc3, od3, .func (PySem.W.fnOf "_once" "_once" (defArgs sOnce) (defBody sOnce) (defScope sOnce) .none kV3 dc3 pm3 an3 cd3 ct3), sl3⟩) (c3 : PySem.W.codeIn K cd3 "_once" = true) (k3 : PySem.W.keepIn K (.ref f3) = true)
    (a4 : PySem.W.nsIn K mainGlobals "_number_of" = some (some (.ref f4))) (l4 : K.lookup f4 = some ⟨oc4, od4, .func (PySem.W.fnOf "_number_of" "_number_of" (defArgs sNumberOf) (defBody sNumberOf) (defScope sNumberOf) .none kV4 dc4 pm4 an4 cd4 ct4), sl4⟩) (c4 : PySem.W.codeIn K cd4 "_number_of" = true) (k4 : PySem.W.keepIn K (.ref f4) = true)
    (a5 : PySem.W.nsIn K mainGlobals "in_lowest_terms" = some (some (.ref f5))) (l5 : K.lookup f5 = some ⟨oc5, od5, .func (PySem.W.fnOf "in_lowest_terms" "in_lowest_terms" (defArgs sInLowest) (defBody sInLowest) (defScope sInLowest) .none kV5 dc5 pm5 an5 cd5 ct5), sl5⟩) (c5 : PySem.W.codeIn K cd5 "in_lowest_terms" = true) (k5 : PySem.W.keepIn K (.ref f5) = true)
    (a6 : PySem.W.nsIn K mainGlobals "point_by" = some (some (.ref f6))) (l6 : K.lookup f6 = some ⟨oc6, od6, .func (PySem.W.fnOf "point_by" "point_by" (defArgs sPoint) (defBody sPoint) (defScope sPoint) .none kV6 dc6 pm6 an6 cd6 ct6), sl6⟩) (c6 : PySem.W.codeIn K cd6 "point_by" = true) (k6 : PySem.W.keepIn K (.ref f6) = true)
    (a7 : PySem.W.nsIn K mainGlobals "_is_pair" = some (some (.ref f7))) (l7 : K.lookup f7 = some ⟨oc7, od7, .func (PySem.W.fnOf "_is_pair" "_is_pair" (defArgs sIsPair) (defBody sIsPair) (defScope sIsPair) .none kV7 dc7 pm7 an7 cd7 ct7), sl7⟩) (c7 : PySem.W.codeIn K cd7 "_is_pair" = true) (k7 : PySem.W.keepIn K (.ref f7) = true)
    (a8 : PySem.W.nsIn K mainGlobals "_is_way" = some (some (.ref f8))) (l8 : K.lookup f8 = some ⟨oc8, od8, .func (PySem.W.fnOf "_is_way" "_is_way" (defArgs sPWay) (defBody sPWay) (defScope sPWay) .none kV8 dc8 pm8 an8 cd8 ct8), sl8⟩) (c8 : PySem.W.codeIn K cd8 "_is_way" = true) (k8 : PySem.W.keepIn K (.ref f8) = true)
    (a9 : PySem.W.nsIn K mainGlobals "_law_spread" = some (some (.ref f9))) (l9 : K.lookup f9 = some ⟨oc9, od9, .func (PySem.W.fnOf "_law_spread" "_law_spread" (defArgs sSpread) (defBody sSpread) (defScope sSpread) .none kV9 dc9 pm9 an9 cd9 ct9), sl9⟩) (c9 : PySem.W.codeIn K cd9 "_law_spread" = true) (k9 : PySem.W.keepIn K (.ref f9) = true)
    (a10 : PySem.W.nsIn K mainGlobals "_law_open" = some (some (.ref f10))) (l10 : K.lookup f10 = some ⟨oc10, od10, .func (PySem.W.fnOf "_law_open" "_law_open" (defArgs sOpen) (defBody sOpen) (defScope sOpen) .none kV10 dc10 pm10 an10 cd10 ct10), sl10⟩) (c10 : PySem.W.codeIn K cd10 "_law_open" = true) (k10 : PySem.W.keepIn K (.ref f10) = true)
    (a11 : PySem.W.nsIn K mainGlobals "_law_take" = some (some (.ref f11))) (l11 : K.lookup f11 = some ⟨oc11, od11, .func (PySem.W.fnOf "_law_take" "_law_take" (defArgs sTake) (defBody sTake) (defScope sTake) .none kV11 dc11 pm11 an11 cd11 ct11), sl11⟩) (c11 : PySem.W.codeIn K cd11 "_law_take" = true) (k11 : PySem.W.keepIn K (.ref f11) = true)
    (a12 : PySem.W.nsIn K mainGlobals "_law_same" = some (some (.ref f12))) (l12 : K.lookup f12 = some ⟨oc12, od12, .func (PySem.W.fnOf "_law_same" "_law_same" (defArgs sSame) (defBody sSame) (defScope sSame) .none kV12 dc12 pm12 an12 cd12 ct12), sl12⟩) (c12 : PySem.W.codeIn K cd12 "_law_same" = true) (k12 : PySem.W.keepIn K (.ref f12) = true)
    (a13 : PySem.W.nsIn K mainGlobals "_law_names" = some (some (.ref f13))) (l13 : K.lookup f13 = some ⟨oc13, od13, .func (PySem.W.fnOf "_law_names" "_law_names" (defArgs sNames) (defBody sNames) (defScope sNames) .none kV13 dc13 pm13 an13 cd13 ct13), sl13⟩) (c13 : PySem.W.codeIn K cd13 "_law_names" = true) (k13 : PySem.W.keepIn K (.ref f13) = true)
    (a14 : PySem.W.nsIn K mainGlobals "_law_row" = some (some (.ref f14))) (l14 : K.lookup f14 = some ⟨oc14, od14, .func (PySem.W.fnOf "_law_row" "_law_row" (defArgs sRow) (defBody sRow) (defScope sRow) .none kV14 dc14 pm14 an14 cd14 ct14), sl14⟩) (c14 : PySem.W.codeIn K cd14 "_law_row" = true) (k14 : PySem.W.keepIn K (.ref f14) = true)
    (a15 : PySem.W.nsIn K mainGlobals "_law_book" = some (some (.ref f15))) (l15 : K.lookup f15 = some ⟨oc15, od15, .func (PySem.W.fnOf "_law_book" "_law_book" (defArgs sBook) (defBody sBook) (defScope sBook) .none kV15 dc15 pm15 an15 cd15 ct15), sl15⟩) (c15 : PySem.W.codeIn K cd15 "_law_book" = true) (k15 : PySem.W.keepIn K (.ref f15) = true)
    (a16 : PySem.W.nsIn K mainGlobals "_law_reduced" = some (some (.ref f16))) (l16 : K.lookup f16 = some ⟨oc16, od16, .func (PySem.W.fnOf "_law_reduced" "_law_reduced" (defArgs sRed) (defBody sRed) (defScope sRed) .none kV16 dc16 pm16 an16 cd16 ct16), sl16⟩) (c16 : PySem.W.codeIn K cd16 "_law_reduced" = true) (k16 : PySem.W.keepIn K (.ref f16) = true)
    (a17 : PySem.W.nsIn K mainGlobals "_law_number" = some (some (.ref f17))) (l17 : K.lookup f17 = some ⟨oc17, od17, .func (PySem.W.fnOf "_law_number" "_law_number" (defArgs sLNumber) (defBody sLNumber) (defScope sLNumber) .none kV17 dc17 pm17 an17 cd17 ct17), sl17⟩) (c17 : PySem.W.codeIn K cd17 "_law_number" = true) (k17 : PySem.W.keepIn K (.ref f17) = true)
    (a18 : PySem.W.nsIn K mainGlobals "_law_worth" = some (some (.ref f18))) (l18 : K.lookup f18 = some ⟨oc18, od18, .func (PySem.W.fnOf "_law_worth" "_law_worth" (defArgs sWorth) (defBody sWorth) (defScope sWorth) .none kV18 dc18 pm18 an18 cd18 ct18), sl18⟩) (c18 : PySem.W.codeIn K cd18 "_law_worth" = true) (k18 : PySem.W.keepIn K (.ref f18) = true)
    (a19 : PySem.W.nsIn K mainGlobals "_law_live" = some (some (.ref f19))) (l19 : K.lookup f19 = some ⟨oc19, od19, .func (PySem.W.fnOf "_law_live" "_law_live" (defArgs sLLive) (defBody sLLive) (defScope sLLive) .none kV19 dc19 pm19 an19 cd19 ct19), sl19⟩) (c19 : PySem.W.codeIn K cd19 "_law_live" = true) (k19 : PySem.W.keepIn K (.ref f19) = true)
    (a20 : PySem.W.nsIn K mainGlobals "_law_way" = some (some (.ref f20))) (l20 : K.lookup f20 = some ⟨oc20, od20, .func (PySem.W.fnOf "_law_way" "_law_way" (defArgs sLWay) (defBody sLWay) (defScope sLWay) .none kV20 dc20 pm20 an20 cd20 ct20), sl20⟩) (c20 : PySem.W.codeIn K cd20 "_law_way" = true) (k20 : PySem.W.keepIn K (.ref f20) = true)
    (a21 : PySem.W.nsIn K mainGlobals "_law_is_way" = some (some (.ref f21))) (l21 : K.lookup f21 = some ⟨oc21, od21, .func (PySem.W.fnOf "_law_is_way" "_law_is_way" (defArgs sIsWay) (defBody sIsWay) (defScope sIsWay) .none kV21 dc21 pm21 an21 cd21 ct21), sl21⟩) (c21 : PySem.W.codeIn K cd21 "_law_is_way" = true) (k21 : PySem.W.keepIn K (.ref f21) = true)
    (a22 : PySem.W.nsIn K mainGlobals "_law_told" = some (some (.ref f22))) (l22 : K.lookup f22 = some ⟨oc22, od22, .func (PySem.W.fnOf "_law_told" "_law_told" (defArgs sTold) (defBody sTold) (defScope sTold) .none kV22 dc22 pm22 an22 cd22 ct22), sl22⟩) (c22 : PySem.W.codeIn K cd22 "_law_told" = true) (k22 : PySem.W.keepIn K (.ref f22) = true)
    (a23 : PySem.W.nsIn K mainGlobals "_law_bent" = some (some (.ref f23))) (l23 : K.lookup f23 = some ⟨oc23, od23, .func (PySem.W.fnOf "_law_bent" "_law_bent" (defArgs sBent) (defBody sBent) (defScope sBent) .none kV23 dc23 pm23 an23 cd23 ct23), sl23⟩) (c23 : PySem.W.codeIn K cd23 "_law_bent" = true) (k23 : PySem.W.keepIn K (.ref f23) = true)
    (a24 : PySem.W.nsIn K mainGlobals "_law_due" = some (some (.ref f24))) (l24 : K.lookup f24 = some ⟨oc24, od24, .func (PySem.W.fnOf "_law_due" "_law_due" (defArgs sDue) (defBody sDue) (defScope sDue) .none kV24 dc24 pm24 an24 cd24 ct24), sl24⟩) (c24 : PySem.W.codeIn K cd24 "_law_due" = true) (k24 : PySem.W.keepIn K (.ref f24) = true)
    (a25 : PySem.W.nsIn K mainGlobals "law" = some (some (.ref f25))) (l25 : K.lookup f25 = some ⟨oc25, od25, .func (PySem.W.fnOf "law" "law" (defArgs sLaw) (defBody sLaw) (defScope sLaw) .none kV25 dc25 pm25 an25 cd25 ct25), sl25⟩) (c25 : PySem.W.codeIn K cd25 "law" = true) (k25 : PySem.W.keepIn K (.ref f25) = true)
    (z_range : PySem.W.nsIn K mainGlobals "range" = some none)
    (z_tuple : PySem.W.nsIn K mainGlobals "tuple" = some none)
    (z_list : PySem.W.nsIn K mainGlobals "list" = some none)
    (z_reversed : PySem.W.nsIn K mainGlobals "reversed" = some none)
    (z_zip : PySem.W.nsIn K mainGlobals "zip" = some none)
    (z_len : PySem.W.nsIn K mainGlobals "len" = some none)
    (z_isinstance : PySem.W.nsIn K mainGlobals "isinstance" = some none)
    (z_bool : PySem.W.nsIn K mainGlobals "bool" = some none)
    (z_int : PySem.W.nsIn K mainGlobals "int" = some none)
    (z_str : PySem.W.nsIn K mainGlobals "str" = some none)
    (z_sorted : PySem.W.nsIn K mainGlobals "sorted" = some none)
    (z_dict : PySem.W.nsIn K mainGlobals "dict" = some none)
    (z_enumerate : PySem.W.nsIn K mainGlobals "enumerate" = some none)
    (z_repr : PySem.W.nsIn K mainGlobals "repr" = some none)
    (z_ValueError : PySem.W.nsIn K mainGlobals "ValueError" = some none)
    (zG : PySem.W.nsIn K mainGlobals "gcd" = some (some (.builtin "math.gcd")))
    (u0 : PySem.W.nsIn K mainGlobals "Full" = some (some (.ref q0)))
    (u1 : PySem.W.nsIn K mainGlobals "Held" = some (some (.ref q1)))
    (u2 : PySem.W.nsIn K mainGlobals "NoBase" = some (some (.ref q2)))
    (u3 : PySem.W.nsIn K mainGlobals "NoForm" = some (some (.ref q3)))
    (u4 : PySem.W.nsIn K mainGlobals "NoName" = some (some (.ref q4)))
    (u5 : PySem.W.nsIn K mainGlobals "NoRow" = some (some (.ref q5)))
    (u6 : PySem.W.nsIn K mainGlobals "NoStretch" = some (some (.ref q6)))
    (u7 : PySem.W.nsIn K mainGlobals "NoText" = some (some (.ref q7)))
    (u8 : PySem.W.nsIn K mainGlobals "Ring" = some (some (.ref q8)))
    (u9 : PySem.W.nsIn K mainGlobals "TooMany" = some (some (.ref q9)))
    (uD : PySem.W.nsIn K mainGlobals "DustError" = some (some (.ref D)))
    (uW : PySem.W.nsIn K mainGlobals "NoWay" = some (some (.ref C)))
    (xm : PySem.W.exmOne K (.ref C) (.ref D) = some true)
    (xi : exiB K C = true)
    (kW : PySem.W.kitOne K (.ref C) (.ref C) = some true)
    (kV : PySem.W.kitOne K (.ref C) (.type "ValueError") = some true)
    (kO : PySem.W.kitAny K (.ref C) [.ref q0, .ref q1, .ref q2, .ref q3, .ref q4, .ref q5, .ref q6, .ref q7, .ref q8, .ref q9] = some false)
    (xC : PySem.W.excIn K C [.type "ValueError", .type "Exception", .type "BaseException", .type "object"] "ValueError.__new__" = true)
    (kC : PySem.W.keepIn K (.ref C) = true)
    (tC : PySem.W.typeIn K (.ref C) = some (.type "type"))
    : ∃ fd : FuncData, (∀ (s : Shared) (v : Value), BindsTo s fd ⟨[v], []⟩ [("script", v)]) ∧ ∀ base : Heap, K.In base → base.Ns mainGlobals mg → AtTop l.prog w K mg base fa fd ["script"] (spLaw K) := by
  have e := hfa.symm.trans (PySem.W.mg_of X G a25)
  cases e
  have F1 := fun_mk (st := sWhole) l1 c1 k1; have g1 := PySem.W.mg_of X G a1
  have F2 := fun_mk (st := sFractionOf) l2 c2 k2; have g2 := PySem.W.mg_of X G a2
  have F3 := fun_mk (st := sOnce) l3 c3 k3; have g3 := PySem.W.mg_of X G a3
  have F4 := fun_mk (st := sNumberOf) l4 c4 k4; have g4 := PySem.W.mg_of X G a4
  have F5 := fun_mk (st := sInLowest) l5 c5 k5; have g5 := PySem.W.mg_of X G a5
  have F6 := fun_mk (st := sPoint) l6 c6 k6; have g6 := PySem.W.mg_of X G a6
  have F7 := fun_mk (st := sIsPair) l7 c7 k7; have g7 := PySem.W.mg_of X G a7
  have F8 := fun_mk (st := sPWay) l8 c8 k8; have g8 := PySem.W.mg_of X G a8
  have F9 := fun_mk (st := sSpread) l9 c9 k9; have g9 := PySem.W.mg_of X G a9
  have F10 := fun_mk (st := sOpen) l10 c10 k10; have g10 := PySem.W.mg_of X G a10
  have F11 := fun_mk (st := sTake) l11 c11 k11; have g11 := PySem.W.mg_of X G a11
  have F12 := fun_mk (st := sSame) l12 c12 k12; have g12 := PySem.W.mg_of X G a12
  have F13 := fun_mk (st := sNames) l13 c13 k13; have g13 := PySem.W.mg_of X G a13
  have F14 := fun_mk (st := sRow) l14 c14 k14; have g14 := PySem.W.mg_of X G a14
  have F15 := fun_mk (st := sBook) l15 c15 k15; have g15 := PySem.W.mg_of X G a15
  have F16 := fun_mk (st := sRed) l16 c16 k16; have g16 := PySem.W.mg_of X G a16
  have F17 := fun_mk (st := sLNumber) l17 c17 k17; have g17 := PySem.W.mg_of X G a17
  have F18 := fun_mk (st := sWorth) l18 c18 k18; have g18 := PySem.W.mg_of X G a18
  have F19 := fun_mk (st := sLLive) l19 c19 k19; have g19 := PySem.W.mg_of X G a19
  have F20 := fun_mk (st := sLWay) l20 c20 k20; have g20 := PySem.W.mg_of X G a20
  have F21 := fun_mk (st := sIsWay) l21 c21 k21; have g21 := PySem.W.mg_of X G a21
  have F22 := fun_mk (st := sTold) l22 c22 k22; have g22 := PySem.W.mg_of X G a22
  have F23 := fun_mk (st := sBent) l23 c23 k23; have g23 := PySem.W.mg_of X G a23
  have F24 := fun_mk (st := sDue) l24 c24 k24; have g24 := PySem.W.mg_of X G a24
  have F25 := fun_mk (st := sLaw) l25 c25 k25; have g25 := PySem.W.mg_of X G a25
  have m_range := PySem.W.mg_none_of X G z_range
  have m_tuple := PySem.W.mg_none_of X G z_tuple
  have m_list := PySem.W.mg_none_of X G z_list
  have m_reversed := PySem.W.mg_none_of X G z_reversed
  have m_zip := PySem.W.mg_none_of X G z_zip
  have m_len := PySem.W.mg_none_of X G z_len
  have m_isinstance := PySem.W.mg_none_of X G z_isinstance
  have m_bool := PySem.W.mg_none_of X G z_bool
  have m_int := PySem.W.mg_none_of X G z_int
  have m_str := PySem.W.mg_none_of X G z_str
  have m_sorted := PySem.W.mg_none_of X G z_sorted
  have m_dict := PySem.W.mg_none_of X G z_dict
  have m_enumerate := PySem.W.mg_none_of X G z_enumerate
  have m_repr := PySem.W.mg_none_of X G z_repr
  have m_ValueError := PySem.W.mg_none_of X G z_ValueError
  have b1 := F1.binds (ps := ["thing"]) fun _ _ _ _ _ _ us hl => match us, hl with | [_], _ => rfl
  have b2 := F2.binds (ps := ["base", "stem", "ring"]) fun _ _ _ _ _ _ us hl => match us, hl with | [_, _, _], _ => rfl
  have b3 := F3.binds (ps := ["ring"]) fun _ _ _ _ _ _ us hl => match us, hl with | [_], _ => rfl
  have b4 := F4.binds (ps := ["base", "digits"]) fun _ _ _ _ _ _ us hl => match us, hl with | [_, _], _ => rfl
  have b5 := F5.binds (ps := ["top", "bottom"]) fun _ _ _ _ _ _ us hl => match us, hl with | [_, _], _ => rfl
  have b6 := F6.binds (ps := ["book", "name", "stem", "ring"]) fun _ _ _ _ _ _ us hl => match us, hl with | [_, _, _, _], _ => rfl
  have b7 := F7.binds (ps := ["book", "thing"]) fun _ _ _ _ _ _ us hl => match us, hl with | [_, _], _ => rfl
  have b8 := F8.binds (ps := ["book", "name", "stem", "ring"]) fun _ _ _ _ _ _ us hl => match us, hl with | [_, _, _, _], _ => rfl
  have b9 := F9.binds (ps := ["cell", "at"]) fun _ _ _ _ _ _ us hl => match us, hl with | [_, _], _ => rfl
  have b10 := F10.binds (ps := ["script"]) fun _ _ _ _ _ _ us hl => match us, hl with | [_], _ => rfl
  have b11 := F11.binds (ps := ["pen", "many"]) fun _ _ _ _ _ _ us hl => match us, hl with | [_, _], _ => rfl
  have b12 := F12.binds (ps := ["found", "due"]) fun _ _ _ _ _ _ us hl => match us, hl with | [_, _], _ => rfl
  have b13 := F13.binds (ps := ["pen", "many"]) fun _ _ _ _ _ _ us hl => match us, hl with | [_, _], _ => rfl
  have b14 := F14.binds (ps := ["pen", "base", "names", "most"]) fun _ _ _ _ _ _ us hl => match us, hl with | [_, _, _, _], _ => rfl
  have b15 := F15.binds (ps := ["pen", "base", "names", "most"]) fun _ _ _ _ _ _ us hl => match us, hl with | [_, _, _, _], _ => rfl
  have b16 := F16.binds (ps := ["top", "whole"]) fun _ _ _ _ _ _ us hl => match us, hl with | [_, _], _ => rfl
  have b17 := F17.binds (ps := ["base", "digits"]) fun _ _ _ _ _ _ us hl => match us, hl with | [_, _], _ => rfl
  have b18 := F18.binds (ps := ["base", "stem", "ring"]) fun _ _ _ _ _ _ us hl => match us, hl with | [_, _, _], _ => rfl
  have b19 := F19.binds (ps := ["rows", "digits"]) fun _ _ _ _ _ _ us hl => match us, hl with | [_, _], _ => rfl
  have b20 := F20.binds (ps := ["pen", "book", "ends", "name"]) fun _ _ _ _ _ _ us hl => match us, hl with | [_, _, _, _], _ => rfl
  have b21 := F21.binds (ps := ["book", "name", "stem", "ring"]) fun _ _ _ _ _ _ us hl => match us, hl with | [_, _, _, _], _ => rfl
  have b22 := F22.binds (ps := ["book", "name", "stem", "ring"]) fun _ _ _ _ _ _ us hl => match us, hl with | [_, _, _, _], _ => rfl
  have b23 := F23.binds (ps := ["pen", "book", "stem", "ring"]) fun _ _ _ _ _ _ us hl => match us, hl with | [_, _, _, _], _ => rfl
  have b24 := F24.binds (ps := ["book", "name", "stem", "ring"]) fun _ _ _ _ _ _ us hl => match us, hl with | [_, _, _, _], _ => rfl
  have TG : TxG mg := ⟨m_isinstance, m_len, m_int, m_bool, m_tuple, m_str, m_list⟩
  have TW : TxW mg := ⟨m_reversed, m_list⟩
  have TS : TxS mg := ⟨m_isinstance, m_int, m_bool, m_str, m_tuple, m_list, m_len, m_zip⟩
  have TT : TxT mg := ⟨m_repr, m_isinstance, m_ValueError⟩
  have gG := PySem.W.mg_of X G zG
  have gC := PySem.W.mg_of X G uW
  have M : ClT K mg [q0, q1, q2, q3, q4, q5, q6, q7, q8, q9] D C := ⟨PySem.W.mg_of X G uD, gC, PySem.W.mg_of X G u0, PySem.W.mg_of X G u1, PySem.W.mg_of X G u2, PySem.W.mg_of X G u3, PySem.W.mg_of X G u4, PySem.W.mg_of X G u5, PySem.W.mg_of X G u6, PySem.W.mg_of X G u7, PySem.W.mg_of X G u8, PySem.W.mg_of X G u9, xm, exiB_ok xi, kW, kV, kO⟩
  refine ⟨PySem.W.fnOf "law" "law" (defArgs sLaw) (defBody sLaw) (defScope sLaw) .none kV25 dc25 pm25 an25 cd25 ct25, fun s v => .of_eq rfl, fun base _ _ => ?_⟩
  have GT := ok_takeC (P := l.prog) (w := w) (base := base) F11 m_len F9 b9 g9
  have GWo := ok_worth2 (P := l.prog) (w := w) (base := base) F18 m_len F17 b17 g17 F16 b16 g16
  have GFo := ok_fractionOfL (P := l.prog) (w := w) (base := base) F2 F4 b4 g4 F5 b5 g5 gG F3 b3 g3 m_len m_range
  have GPw := ok_pway (P := l.prog) (w := w) (base := base) F8 TG F7 b7 g7 F1 b1 g1
  have GPt := ok_point (P := l.prog) (w := w) (base := base) F6 F8 GPw b8 g8 F2 GFo b2 g2 xC gC kC (exiB_ok xi).hs tC
  have GTd := ok_told (P := l.prog) (w := w) (base := base) F22 TT M F6 GPt b6 g6
  have GDu := ok_due (P := l.prog) (w := w) (base := base) F24 TG F21 b21 g21 F18 GWo b18 g18
  have GBt := ok_bent (P := l.prog) (w := w) (base := base) F23 m_len m_list F11 GT b11 g11
  have GS := ok_same (P := l.prog) (w := w) (base := base) F12 TS b12 g12 4
  have GNm := ok_names (P := l.prog) (w := w) (base := base) F13 ⟨m_len, m_range⟩ F11 GT b11 g11
  have GRw := ok_row (P := l.prog) (w := w) (base := base) F14 ⟨m_len, m_range, m_tuple, m_sorted⟩ F11 GT b11 g11
  have GBk := ok_book (P := l.prog) (w := w) (base := base) F15 ⟨m_len, m_range, m_tuple, m_sorted, m_dict⟩ F11 GT b11 g11 F14 GRw b14 g14
  have GLv := ok_llive (P := l.prog) (w := w) (base := base) F19 TW m_len
  have GWy := ok_lway (P := l.prog) (w := w) (base := base) F20 ⟨m_len, m_int, m_tuple⟩ F11 GT b11 g11
  exact ok_law F25 ⟨m_range, m_list, m_repr⟩ F10 (ok_open F10 m_list m_enumerate) b10 g10 F11 GT b11 g11 F13 GNm b13 g13 F15 GBk b15 g15 F19 GLv b19 g19 F20 GWy b20 g20 F24 GDu b24 g24 F12 GS b12 g12 F22 GTd b22 g22 F23 GBt b23 g23
end My
open PySem PySem.W PyProof.Rows
set_option maxRecDepth 100000 in
set_option maxHeartbeats 0 in
theorem PySem.Challenge.cw_dustwithin_k05_points_by_ways_holds : PySem.Challenge.rw_dustwithin_k05_points_by_ways.Holds := by
  w_on; o_law; k_head; (case hw => w_witness2)
  k_fill
  refine My.walk_top (l := PySem.Challenge.rw_dustwithin_k05_points_by_ways) (n := 63) (x := "script") (sp := fun w => My.spLaw _) rfl (by decide) rfl (fun w h Y => PySem.W.kIn_of Y) ?F (fun _ _ a ns hl _ hS => ⟨a, ns, rfl, hS, hl, fun _ => rfl⟩)
  case F =>
    intro w mg fa h KX G hmg
    refine' My.all_mk KX G hmg ?a1 ?l1 ?c1 ?k1 ?a2 ?l2 ?c2 ?k2 ?a3 ?l3 ?c3 ?k3 ?a4 ?l4 ?c4 ?k4 ?a5 ?l5 ?c5 ?k5 ?a6 ?l6 ?c6 ?k6 ?a7 ?l7 ?c7 ?k7 ?a8 ?l8 ?c8 ?k8 ?a9 ?l9 ?c9 ?k9 ?a10 ?l10 ?c10 ?k10 ?a11 ?l11 ?c11 ?k11 ?a12 ?l12 ?c12 ?k12 ?a13 ?l13 ?c13 ?k13 ?a14 ?l14 ?c14 ?k14 ?a15 ?l15 ?c15 ?k15 ?a16 ?l16 ?c16 ?k16 ?a17 ?l17 ?c17 ?k17 ?a18 ?l18 ?c18 ?k18 ?a19 ?l19 ?c19 ?k19 ?a20 ?l20 ?c20 ?k20 ?a21 ?l21 ?c21 ?k21 ?a22 ?l22 ?c22 ?k22 ?a23 ?l23 ?c23 ?k23 ?a24 ?l24 ?c24 ?k24 ?a25 ?l25 ?c25 ?k25 ?z_range ?z_tuple ?z_list ?z_reversed ?z_zip ?z_len ?z_isinstance ?z_bool ?z_int ?z_str ?z_sorted ?z_dict ?z_enumerate ?z_repr ?z_ValueError ?zG ?u0 ?u1 ?u2 ?u3 ?u4 ?u5 ?u6 ?u7 ?u8 ?u9 ?uD ?uW ?xm ?xi ?kW ?kV ?kO ?xC ?kC ?tC
    (case a1 => k_is); (case l1 => k_is); (case c1 => k_is); (case k1 => k_is); (case a2 => k_is); (case l2 => k_is)
    (case c2 => k_is); (case k2 => k_is); (case a3 => k_is); (case l3 => k_is); (case c3 => k_is); (case k3 => k_is)
    (case a4 => k_is); (case l4 => k_is); (case c4 => k_is); (case k4 => k_is); (case a5 => k_is); (case l5 => k_is)
    (case c5 => k_is); (case k5 => k_is); (case a6 => k_is); (case l6 => k_is); (case c6 => k_is); (case k6 => k_is)
    (case a7 => k_is); (case l7 => k_is); (case c7 => k_is); (case k7 => k_is); (case a8 => k_is); (case l8 => k_is)
    (case c8 => k_is); (case k8 => k_is); (case a9 => k_is); (case l9 => k_is); (case c9 => k_is); (case k9 => k_is)
    (case a10 => k_is); (case l10 => k_is); (case c10 => k_is); (case k10 => k_is); (case a11 => k_is); (case l11 => k_is)
    (case c11 => k_is); (case k11 => k_is); (case a12 => k_is); (case l12 => k_is); (case c12 => k_is); (case k12 => k_is)
    (case a13 => k_is); (case l13 => k_is); (case c13 => k_is); (case k13 => k_is); (case a14 => k_is); (case l14 => k_is)
    (case c14 => k_is); (case k14 => k_is); (case a15 => k_is); (case l15 => k_is); (case c15 => k_is); (case k15 => k_is)
    (case a16 => k_is); (case l16 => k_is); (case c16 => k_is); (case k16 => k_is); (case a17 => k_is); (case l17 => k_is)
    (case c17 => k_is); (case k17 => k_is); (case a18 => k_is); (case l18 => k_is); (case c18 => k_is); (case k18 => k_is)
    (case a19 => k_is); (case l19 => k_is); (case c19 => k_is); (case k19 => k_is); (case a20 => k_is); (case l20 => k_is)
    (case c20 => k_is); (case k20 => k_is); (case a21 => k_is); (case l21 => k_is); (case c21 => k_is); (case k21 => k_is)
    (case a22 => k_is); (case l22 => k_is); (case c22 => k_is); (case k22 => k_is); (case a23 => k_is); (case l23 => k_is)
    (case c23 => k_is); (case k23 => k_is); (case a24 => k_is); (case l24 => k_is); (case c24 => k_is); (case k24 => k_is)
    (case a25 => k_is); (case l25 => k_is); (case c25 => k_is); (case k25 => k_is); (case z_range => k_is); (case z_tuple => k_is)
    (case z_list => k_is); (case z_reversed => k_is); (case z_zip => k_is); (case z_len => k_is); (case z_isinstance => k_is); (case z_bool => k_is)
    (case z_int => k_is); (case z_str => k_is); (case z_sorted => k_is); (case z_dict => k_is); (case z_enumerate => k_is); (case z_repr => k_is)
    (case z_ValueError => k_is); (case zG => k_is); (case u0 => k_is); (case u1 => k_is); (case u2 => k_is); (case u3 => k_is)
    (case u4 => k_is); (case u5 => k_is); (case u6 => k_is); (case u7 => k_is); (case u8 => k_is); (case u9 => k_is)
    (case uD => k_is); (case uW => k_is); (case xm => kernel_rfl); (case xi => kernel_rfl); (case kW => kernel_rfl); (case kV => kernel_rfl)
    (case kO => kernel_rfl); (case xC => kernel_rfl); (case kC => k_is); (case tC => k_is)
